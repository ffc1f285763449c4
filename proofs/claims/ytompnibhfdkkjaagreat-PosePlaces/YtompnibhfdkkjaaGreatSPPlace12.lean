/- Package pose's frame: points that are turned and moved. -/
import Derived.Test.YtompnibhfdkkjaaGreatSPPlace7
import Derived.Test.YtompnibhfdkkjaaGreatSPPlace9
import Derived.Test.YtompnibhfdkkjaaGreatSPPlace11
namespace Go.Proofs.YtompnibhfdkkjaaGreat
open Go.RowKit Go.Shelf
set_option linter.unusedVariables false

/-- A turn's matrix. -/
structure M9 where
  a0 : Int
  a1 : Int
  a2 : Int
  a3 : Int
  a4 : Int
  a5 : Int
  a6 : Int
  a7 : Int
  a8 : Int
def M9.v (m : M9) : Value := .agg #[.int .i64 m.a0, .int .i64 m.a1, .int .i64 m.a2, .int .i64 m.a3, .int .i64 m.a4, .int .i64 m.a5, .int .i64 m.a6, .int .i64 m.a7, .int .i64 m.a8]
/-- All three, or none. -/
def opt3 (a b c : Option Int) : Option Pt := match a, b, c with
  | some x, some y, some z => some ⟨x, y, z⟩
  | _, _, _ => none
def M9.turn (m : M9) (x : Pt) : Option Pt := opt3 (Fx.dot [m.a0, m.a1, m.a2] [x.x, x.y, x.z]) (Fx.dot [m.a3, m.a4, m.a5] [x.x, x.y, x.z]) (Fx.dot [m.a6, m.a7, m.a8] [x.x, x.y, x.z])
def Pt.addO (x y : Pt) : Option Pt := opt3 (Fx.add x.x y.x) (Fx.add x.y y.y) (Fx.add x.z y.z)
def Pt.times (p : Pt) (n : Int) : Pt := ⟨IntKind.i64.wrap (p.x * n), IntKind.i64.wrap (p.y * n), IntKind.i64.wrap (p.z * n)⟩
theorem step3_pt {f g : Bool} {a b c : Option Int} {x y z : Int} (h : Step3 f a b c x y z g) : (⟨x, y, z⟩ : Pt) = (opt3 a b c).getD Pt.O ∧ g = (f || (opt3 a b c).isNone) := by
  obtain ⟨h1, h2, h3, h4⟩ := h
  subst h1 h2 h3 h4
  cases a <;> cases b <;> cases c <;> simp [opt3, Pt.O]
theorem vturn_pt (b off : Nat) (f : Bool) (m : M9) (x : Pt) (W : World) (hc : W.cell? ⟨b, off, none⟩ = some (.bool f)) (hf : W.frozen? ⟨b, off, none⟩ = false) :
    Calls Tryz.prog 96 #[.pointer (some ⟨b, off, none⟩), m.v, x.v] W fun e W' => e = .returned ((m.turn x).getD Pt.O).v ∧ Hid (After ⟨b, off, none⟩ (f || (m.turn x).isNone) W W') := by
  refine Calls.mono (vturn_law b off f m.a0 m.a1 m.a2 m.a3 m.a4 m.a5 m.a6 m.a7 m.a8 x.x x.y x.z W hc hf) ?_
  rintro e W' ⟨v0, v1, v2, g, rfl, S3, A⟩
  obtain ⟨e1, e2⟩ := step3_pt S3.out
  unfold M9.turn
  rw [← e1, ← e2]
  exact ⟨rfl, A⟩
theorem vadd_pt (b off : Nat) (f : Bool) (x y : Pt) (W : World) (hc : W.cell? ⟨b, off, none⟩ = some (.bool f)) (hf : W.frozen? ⟨b, off, none⟩ = false) :
    Calls Tryz.prog 54 #[.pointer (some ⟨b, off, none⟩), x.v, y.v] W fun e W' => e = .returned ((x.addO y).getD Pt.O).v ∧ Hid (After ⟨b, off, none⟩ (f || (x.addO y).isNone) W W') := by
  refine Calls.mono (vadd_law b off f x.x x.y x.z y.x y.y y.z W hc hf) ?_
  rintro e W' ⟨v0, v1, v2, g, rfl, S3, A⟩
  obtain ⟨e1, e2⟩ := step3_pt S3.out
  unfold Pt.addO
  rw [← e1, ← e2]
  exact ⟨rfl, A⟩

/-- A frame's cells: the flag, the rows, the place. -/
def frL (f : Bool) (m : M9) (t : Pt) : List Value := [.bool f, .int .i64 m.a0, .int .i64 m.a1, .int .i64 m.a2, .int .i64 m.a3, .int .i64 m.a4, .int .i64 m.a5, .int .i64 m.a6, .int .i64 m.a7, .int .i64 m.a8, .int .i64 t.x, .int .i64 t.y, .int .i64 t.z]
theorem Cells.after {W W' : World} {b : Nat} {u : Value} {vs : List Value} {g : Bool} (h : Cells W b (u :: vs)) (A : After ⟨b, 0, none⟩ g W W') : Cells W' b (.bool g :: vs) := by
  intro i v e
  have hb : b < W.heap.size := World.block_lt_of_cell? _ _ (h 0 u rfl).1
  cases i with
  | zero => simp at e; subst e; exact ⟨A.cell, A.frozen⟩
  | succ i =>
    obtain ⟨h1, h2⟩ := h (i + 1) v (by simpa using e)
    obtain ⟨a1, a2⟩ := A.beside hb (i + 1) (by simp)
    exact ⟨a1.trans h1, a2.trans h2⟩
theorem Cells.beside {W W' : World} {b b' : Nat} {vs : List Value} {g : Bool} (h : Cells W b vs) (A : After ⟨b', 0, none⟩ g W W') (hne : b ≠ b') : Cells W' b vs := fun i v e =>
  ⟨A.cellOf (h i v e).1 hne, A.frozenOf (h i v e).1 (h i v e).2 hne⟩
theorem Cells.lt {W : World} {b : Nat} {u : Value} {vs : List Value} (h : Cells W b (u :: vs)) : b < W.heap.size := World.block_lt_of_cell? _ _ (h 0 u rfl).1
theorem Box3.after {W W' : World} {b b' : Nat} {q : Pt} {g : Bool} (h : Box3 W b q) (A : After ⟨b', 0, none⟩ g W W') (hne : b ≠ b') : Box3 W' b q :=
  ⟨A.cellOf h.c0 hne, A.cellOf h.c1 hne, A.cellOf h.c2 hne, A.frozenOf h.c0 h.f0 hne, A.frozenOf h.c1 h.f1 hne, A.frozenOf h.c2 h.f2 hne⟩
theorem RV.Pend.after {W0 : World} {T i j : Nat} {fin : Array Value} {γ : Nat → Value} {L : Nat → Bool} {w w' : World} {b : Nat} {g : Bool} (h : RV.Pend W0 T i j fin γ L w) (A : After ⟨b, 0, none⟩ g w w') (hb : b < W0.heap.size) : RV.Pend W0 T i j fin γ L w' := by
  intro hl
  obtain ⟨c, cs, h1, h2, h3, h4, h5⟩ := h hl
  exact ⟨c, cs, h1, h2, (A.kept.2.2.2 c (Array.getElem?_eq_some_iff.1 h3).1 (by show c ≠ b; omega)).trans h3, h4, h5⟩
/-- A frame at work: from w0 on nothing else that was there has turned. -/
structure FG (w0 : World) (fb : Nat) (g : Bool) (m : M9) (t : Pt) (w : World) : Prop where
  lv : Leaves ⟨fb, 0, none⟩ w0 w
  fr : Cells w fb (frL g m t)
theorem FG.start {w0 w : World} {fb : Nat} {g : Bool} {m : M9} {t : Pt} (h : Cells w0 fb (frL g m t)) (hb : Below w0.heap.size w0 w) : FG w0 fb g m t w := ⟨(Leaves.refl _ _).step hb, h.step hb⟩
theorem FG.step {w0 w w' : World} {fb : Nat} {g : Bool} {m : M9} {t : Pt} (h : FG w0 fb g m t w) (hb : Below w.heap.size w w') : FG w0 fb g m t w' := ⟨h.lv.step (hb.mono h.lv.size), h.fr.step hb⟩
theorem FG.after {w0 w w' : World} {fb : Nat} {g g' : Bool} {m : M9} {t : Pt} (h : FG w0 fb g m t w) (A : After ⟨fb, 0, none⟩ g' w w') : FG w0 fb g' m t w' := ⟨h.lv.same A, Cells.after h.fr A⟩
theorem FG.set {w0 w : World} {fb : Nat} {g : Bool} {m : M9} {t : Pt} (h : FG w0 fb g m t w) {b : Nat} (o : Nat) (v : Value) (hb : w0.heap.size ≤ b) (hne : b ≠ fb) : FG w0 fb g m t (w.setCell ⟨b, o, none⟩ v) := by
  refine ⟨h.lv.set hb v, fun i u e => ?_⟩
  have hne' : ¬ fb = b := fun e => hne e.symm
  exact ⟨by simp [go_sem, (h.fr i u e).1], by simp [go_sem, (h.fr i u e).2]⟩
theorem FG.set3 {w0 w : World} {fb : Nat} {g : Bool} {m : M9} {t : Pt} (h : FG w0 fb g m t w) {b : Nat} (x y z : Int) (hb : w0.heap.size ≤ b) (hne : b ≠ fb) : FG w0 fb g m t (set3 w b x y z) := ((h.set 0 _ hb hne).set 1 _ hb hne).set 2 _ hb hne
theorem FG.done {w0 w : World} {fb : Nat} {g : Bool} {m : M9} {t : Pt} (h : FG w0 fb g m t w) : After ⟨fb, 0, none⟩ g w0 w := h.lv.done (h.fr 0 _ rfl).1 (h.fr 0 _ rfl).2

set_option maxHeartbeats 4000000 in
set_option maxRecDepth 100000 in
theorem turned_any (fb : Nat) (f : Bool) (m : M9) (t p : Pt) (n : Int) (w0 : World) (hF : Cells w0 fb (frL f m t)) :
    Calls Tryz.prog 55 #[.pointer (some ⟨fb, 0, none⟩), p.v, .int .i64 n] w0 fun e W => e = .returned ((m.turn (p.times n)).getD Pt.O).v ∧ Hid (After ⟨fb, 0, none⟩ (f || (m.turn (p.times n)).isNone) w0 W) := by
  have HT : Hid _ := fun (w : World) (g : Bool) => vturn_pt fb 0 g m (p.times n) w
  have hlt := hF.lt
  generalize (m.turn (p.times n)).getD Pt.O = q at *
  generalize (m.turn (p.times n)).isNone = bd at *
  obtain ⟨m0, m1, m2, m3, m4, m5, m6, m7, m8⟩ := m
  obtain ⟨tx, ty, tz⟩ := t
  obtain ⟨x, y, z⟩ := p
  obtain ⟨xq, yq, zq⟩ := q
  unfold Pt.times at HT
  unfold M9.v Pt.v at HT
  unfold Pt.v
  dsimp only at *
  obtain ⟨xn, hxn⟩ : ∃ a, IntKind.i64.wrap (x * n) = a := ⟨_, rfl⟩
  obtain ⟨yn, hyn⟩ : ∃ a, IntKind.i64.wrap (y * n) = a := ⟨_, rfl⟩
  obtain ⟨zn, hzn⟩ : ∃ a, IntKind.i64.wrap (z * n) = a := ⟨_, rfl⟩
  rw [hxn, hyn, hzn] at HT
  go_enter Tryz.func55, Tryz.ntmps55
  go_upto_region 1 with fail
  obtain ⟨V, hV⟩ : ∃ V : World, V = (w0.alloc (.cells #[.int .i64 x, .int .i64 y, .int .i64 z] 31)).alloc (.cells #[.int .i64 0, .int .i64 0, .int .i64 0] 26) := ⟨_, rfl⟩
  obtain ⟨pb, hpb⟩ : ∃ b, b = w0.heap.size := ⟨_, rfl⟩
  obtain ⟨ob, hob'⟩ : ∃ b, b = w0.heap.size + 1 := ⟨_, rfl⟩
  have hBV : Hid (Below w0.heap.size w0 V) := by show Below _ _ _; rw [hV]; exact b_step (n_after _ _) (n_after _ _)
  have B1 : Box3 V pb ⟨x, y, z⟩ := by rw [hV, hpb]; exact (Box3.new w0 x y z _).step (n_after _ _)
  have B2 : Box3 V ob Pt.O := by rw [hV, hob']; have := Box3.new (w0.alloc (.cells #[.int .i64 x, .int .i64 y, .int .i64 z] 31)) 0 0 0 26; rwa [World.size_alloc] at this
  rw [← hV, ← hob', ← hpb]
  have hob : w0.heap.size ≤ ob := by omega
  have hof : ob ≠ fb := by omega
  have hpf : pb ≠ fb := by omega
  have hop : ob ≠ pb := by omega
  clear hV hpb hob'
  refine RV.region_by (fun j v w => match j with | 0 => v = .pointer (some ⟨fb, 0, none⟩) | 1 => v = .pointer (some ⟨fb, 0, none⟩) | 2 => v = .pointer (some ⟨fb, 0, none⟩) | 3 => v = .pointer (some ⟨fb, 0, none⟩) | 4 => v = .pointer (some ⟨fb, 0, none⟩) | 5 => v = .pointer (some ⟨fb, 1, none⟩) | 6 => v = .agg #[.int .i64 m0, .int .i64 m1, .int .i64 m2, .int .i64 m3, .int .i64 m4, .int .i64 m5, .int .i64 m6, .int .i64 m7, .int .i64 m8] | 7 => v = .pointer (some ⟨pb, 0, none⟩) | 8 => v = .int .i64 x | 9 => v = .int .i64 n | 10 => v = .int .i64 xn | 11 => v = .pointer (some ⟨pb, 1, none⟩) | 12 => v = .int .i64 y | 13 => v = .int .i64 n | 14 => v = .int .i64 yn | 15 => v = .pointer (some ⟨pb, 2, none⟩) | 16 => v = .int .i64 z | 17 => v = .int .i64 n | 18 => v = .int .i64 zn | 19 => v = .agg #[.int .i64 xn, .int .i64 yn, .int .i64 zn] | 20 => v = .agg #[.int .i64 xq, .int .i64 yq, .int .i64 zq] | 21 => True | _ => True) (fun γ L w => FG w0 fb (f || (L 20 && bd)) ⟨m0, m1, m2, m3, m4, m5, m6, m7, m8⟩ ⟨tx, ty, tz⟩ w ∧ Box3 w pb ⟨x, y, z⟩ ∧ Box3 w ob (cond (L 21) ⟨xq, yq, zq⟩ Pt.O)) (by kernel_rfl) (by kernel_rfl) (by kernel_rfl) (by kernel_rfl) ?_ ?_ ?_
  · have b9 : Below V.heap.size V V.drew := (Below.refl _ _).drew; simp only [Bool.false_and, Bool.or_false, cond]; exact ⟨(FG.start hF hBV.out).step b9, B1.step b9, B2.step b9⟩
  · generalize hD : dstOf _ = D
    generalize hWA : waitsFor _ = WA
    generalize hZ : Act.mk _ _ = Z
    obtain ⟨R, hR⟩ : ∃ R : Nat → Value → World → Prop, R = (fun j v w => match j with | 0 => v = .pointer (some ⟨fb, 0, none⟩) | 1 => v = .pointer (some ⟨fb, 0, none⟩) | 2 => v = .pointer (some ⟨fb, 0, none⟩) | 3 => v = .pointer (some ⟨fb, 0, none⟩) | 4 => v = .pointer (some ⟨fb, 0, none⟩) | 5 => v = .pointer (some ⟨fb, 1, none⟩) | 6 => v = .agg #[.int .i64 m0, .int .i64 m1, .int .i64 m2, .int .i64 m3, .int .i64 m4, .int .i64 m5, .int .i64 m6, .int .i64 m7, .int .i64 m8] | 7 => v = .pointer (some ⟨pb, 0, none⟩) | 8 => v = .int .i64 x | 9 => v = .int .i64 n | 10 => v = .int .i64 xn | 11 => v = .pointer (some ⟨pb, 1, none⟩) | 12 => v = .int .i64 y | 13 => v = .int .i64 n | 14 => v = .int .i64 yn | 15 => v = .pointer (some ⟨pb, 2, none⟩) | 16 => v = .int .i64 z | 17 => v = .int .i64 n | 18 => v = .int .i64 zn | 19 => v = .agg #[.int .i64 xn, .int .i64 yn, .int .i64 zn] | 20 => v = .agg #[.int .i64 xq, .int .i64 yq, .int .i64 zq] | 21 => True | _ => True) := ⟨_, rfl⟩
    rw [← hR]
    have d0 : D 0 = some 7 := by rw [← hD]; rfl
    have d1 : D 1 = some 8 := by rw [← hD]; rfl
    have d2 : D 2 = some 9 := by rw [← hD]; rfl
    have d3 : D 3 = some 10 := by rw [← hD]; rfl
    have d4 : D 4 = some 11 := by rw [← hD]; rfl
    have d5 : D 5 = some 12 := by rw [← hD]; rfl
    have d6 : D 6 = some 13 := by rw [← hD]; rfl
    have d7 : D 7 = some 14 := by rw [← hD]; rfl
    have d8 : D 8 = some 15 := by rw [← hD]; rfl
    have d9 : D 9 = some 16 := by rw [← hD]; rfl
    have d10 : D 10 = some 17 := by rw [← hD]; rfl
    have d11 : D 11 = some 18 := by rw [← hD]; rfl
    have d12 : D 12 = some 19 := by rw [← hD]; rfl
    have d13 : D 13 = some 20 := by rw [← hD]; rfl
    have d14 : D 14 = some 21 := by rw [← hD]; rfl
    have d15 : D 15 = some 22 := by rw [← hD]; rfl
    have d16 : D 16 = some 23 := by rw [← hD]; rfl
    have d17 : D 17 = some 24 := by rw [← hD]; rfl
    have d18 : D 18 = some 25 := by rw [← hD]; rfl
    have d19 : D 19 = some 26 := by rw [← hD]; rfl
    have d20 : D 20 = some 27 := by rw [← hD]; rfl
    have r0 : ∀ v w, R 0 v w = (v = .pointer (some ⟨fb, 0, none⟩)) := fun v w => by rw [hR]; rfl
    have r1 : ∀ v w, R 1 v w = (v = .pointer (some ⟨fb, 0, none⟩)) := fun v w => by rw [hR]; rfl
    have r2 : ∀ v w, R 2 v w = (v = .pointer (some ⟨fb, 0, none⟩)) := fun v w => by rw [hR]; rfl
    have r3 : ∀ v w, R 3 v w = (v = .pointer (some ⟨fb, 0, none⟩)) := fun v w => by rw [hR]; rfl
    have r4 : ∀ v w, R 4 v w = (v = .pointer (some ⟨fb, 0, none⟩)) := fun v w => by rw [hR]; rfl
    have r5 : ∀ v w, R 5 v w = (v = .pointer (some ⟨fb, 1, none⟩)) := fun v w => by rw [hR]; rfl
    have r6 : ∀ v w, R 6 v w = (v = .agg #[.int .i64 m0, .int .i64 m1, .int .i64 m2, .int .i64 m3, .int .i64 m4, .int .i64 m5, .int .i64 m6, .int .i64 m7, .int .i64 m8]) := fun v w => by rw [hR]; rfl
    have r7 : ∀ v w, R 7 v w = (v = .pointer (some ⟨pb, 0, none⟩)) := fun v w => by rw [hR]; rfl
    have r8 : ∀ v w, R 8 v w = (v = .int .i64 x) := fun v w => by rw [hR]; rfl
    have r9 : ∀ v w, R 9 v w = (v = .int .i64 n) := fun v w => by rw [hR]; rfl
    have r10 : ∀ v w, R 10 v w = (v = .int .i64 xn) := fun v w => by rw [hR]; rfl
    have r11 : ∀ v w, R 11 v w = (v = .pointer (some ⟨pb, 1, none⟩)) := fun v w => by rw [hR]; rfl
    have r12 : ∀ v w, R 12 v w = (v = .int .i64 y) := fun v w => by rw [hR]; rfl
    have r13 : ∀ v w, R 13 v w = (v = .int .i64 n) := fun v w => by rw [hR]; rfl
    have r14 : ∀ v w, R 14 v w = (v = .int .i64 yn) := fun v w => by rw [hR]; rfl
    have r15 : ∀ v w, R 15 v w = (v = .pointer (some ⟨pb, 2, none⟩)) := fun v w => by rw [hR]; rfl
    have r16 : ∀ v w, R 16 v w = (v = .int .i64 z) := fun v w => by rw [hR]; rfl
    have r17 : ∀ v w, R 17 v w = (v = .int .i64 n) := fun v w => by rw [hR]; rfl
    have r18 : ∀ v w, R 18 v w = (v = .int .i64 zn) := fun v w => by rw [hR]; rfl
    have r19 : ∀ v w, R 19 v w = (v = .agg #[.int .i64 xn, .int .i64 yn, .int .i64 zn]) := fun v w => by rw [hR]; rfl
    have r20 : ∀ v w, R 20 v w = (v = .agg #[.int .i64 xq, .int .i64 yq, .int .i64 zq]) := fun v w => by rw [hR]; rfl
    have r21 : ∀ v w, R 21 v w = (True) := fun v w => by rw [hR]; rfl
    have E0 : ∀ (γ : Nat → Value) (L : Nat → Bool) (a : Act) (w : World), RV.Held D WA R (fun γ L w => FG w0 fb (f || (L 20 && bd)) ⟨m0, m1, m2, m3, m4, m5, m6, m7, m8⟩ ⟨tx, ty, tz⟩ w ∧ Box3 w pb ⟨x, y, z⟩ ∧ Box3 w ob (cond (L 21) ⟨xq, yq, zq⟩ Pt.O)) Z γ L a w → a.tmps[0]? = some (.pointer (some ⟨fb, 0, none⟩)) := fun γ L a w hH => (hH.rest 0 (by rw [← hD]; exact RV.dst_free (by kernel_rfl))).trans (by rw [← hZ]; rfl)
    have E2 : ∀ (γ : Nat → Value) (L : Nat → Bool) (a : Act) (w : World), RV.Held D WA R (fun γ L w => FG w0 fb (f || (L 20 && bd)) ⟨m0, m1, m2, m3, m4, m5, m6, m7, m8⟩ ⟨tx, ty, tz⟩ w ∧ Box3 w pb ⟨x, y, z⟩ ∧ Box3 w ob (cond (L 21) ⟨xq, yq, zq⟩ Pt.O)) Z γ L a w → a.tmps[2]? = some (.int .i64 n) := fun γ L a w hH => (hH.rest 2 (by rw [← hD]; exact RV.dst_free (by kernel_rfl))).trans (by rw [← hZ]; rfl)
    have E4 : ∀ (γ : Nat → Value) (L : Nat → Bool) (a : Act) (w : World), RV.Held D WA R (fun γ L w => FG w0 fb (f || (L 20 && bd)) ⟨m0, m1, m2, m3, m4, m5, m6, m7, m8⟩ ⟨tx, ty, tz⟩ w ∧ Box3 w pb ⟨x, y, z⟩ ∧ Box3 w ob (cond (L 21) ⟨xq, yq, zq⟩ Pt.O)) Z γ L a w → a.tmps[4]? = some (.pointer (some ⟨pb, 0, none⟩)) := fun γ L a w hH => (hH.rest 4 (by rw [← hD]; exact RV.dst_free (by kernel_rfl))).trans (by rw [← hZ]; rfl)
    have E6 : ∀ (γ : Nat → Value) (L : Nat → Bool) (a : Act) (w : World), RV.Held D WA R (fun γ L w => FG w0 fb (f || (L 20 && bd)) ⟨m0, m1, m2, m3, m4, m5, m6, m7, m8⟩ ⟨tx, ty, tz⟩ w ∧ Box3 w pb ⟨x, y, z⟩ ∧ Box3 w ob (cond (L 21) ⟨xq, yq, zq⟩ Pt.O)) Z γ L a w → a.tmps[6]? = some (.pointer (some ⟨ob, 0, none⟩)) := fun γ L a w hH => (hH.rest 6 (by rw [← hD]; exact RV.dst_free (by kernel_rfl))).trans (by rw [← hZ]; rfl)
    have K : ∀ j v w w', R j v w → R j v w' := by rw [hR]; intro j v w w' h; exact h
    clear hD hWA hZ hR
    refine RV.AllDo.cons 0 (RV.does_pure (fun γ v L w hl h => by rw [RV.more_ne (L := L) (i := 0) (j := 20) (by decide), RV.more_ne (L := L) (i := 0) (j := 21) (by decide)]; exact h) (fun γ L a w hH hl hA => by have e0 := E0 γ L a w hH; exact ⟨.pointer (some ⟨fb, 0, none⟩), by simp [execOp, go_sem, e0], (r0 _ _).mpr rfl⟩)) ?_
    refine RV.AllDo.cons 1 (RV.does_pure (fun γ v L w hl h => by rw [RV.more_ne (L := L) (i := 1) (j := 20) (by decide), RV.more_ne (L := L) (i := 1) (j := 21) (by decide)]; exact h) (fun γ L a w hH hl hA => by have l0 : L 0 = true := hA ⟨0, .data⟩ (by simp) rfl; have e0 := hH.slot 0 7 d0 l0; have g0 := hH.holds 0 l0; rw [r0] at g0; rw [g0] at e0; exact ⟨.pointer (some ⟨fb, 0, none⟩), by simp [execOp, go_sem, e0], (r1 _ _).mpr rfl⟩)) ?_
    refine RV.AllDo.cons 2 (RV.does_pure (fun γ v L w hl h => by rw [RV.more_ne (L := L) (i := 2) (j := 20) (by decide), RV.more_ne (L := L) (i := 2) (j := 21) (by decide)]; exact h) (fun γ L a w hH hl hA => by have l0 : L 1 = true := hA ⟨1, .data⟩ (by simp) rfl; have e0 := hH.slot 1 8 d1 l0; have g0 := hH.holds 1 l0; rw [r1] at g0; rw [g0] at e0; exact ⟨.pointer (some ⟨fb, 0, none⟩), by simp [execOp, go_sem, e0], (r2 _ _).mpr rfl⟩)) ?_
    refine RV.AllDo.cons 3 (RV.does_pure (fun γ v L w hl h => by rw [RV.more_ne (L := L) (i := 3) (j := 20) (by decide), RV.more_ne (L := L) (i := 3) (j := 21) (by decide)]; exact h) (fun γ L a w hH hl hA => by have e0 := E0 γ L a w hH; exact ⟨.pointer (some ⟨fb, 0, none⟩), by simp [execOp, go_sem, e0], (r3 _ _).mpr rfl⟩)) ?_
    refine RV.AllDo.cons 4 (RV.does_pure (fun γ v L w hl h => by rw [RV.more_ne (L := L) (i := 4) (j := 20) (by decide), RV.more_ne (L := L) (i := 4) (j := 21) (by decide)]; exact h) (fun γ L a w hH hl hA => by have l0 : L 3 = true := hA ⟨3, .data⟩ (by simp) rfl; have e0 := hH.slot 3 10 d3 l0; have g0 := hH.holds 3 l0; rw [r3] at g0; rw [g0] at e0; exact ⟨.pointer (some ⟨fb, 0, none⟩), by simp [execOp, go_sem, e0], (r4 _ _).mpr rfl⟩)) ?_
    refine RV.AllDo.cons 5 (RV.does_pure (fun γ v L w hl h => by rw [RV.more_ne (L := L) (i := 5) (j := 20) (by decide), RV.more_ne (L := L) (i := 5) (j := 21) (by decide)]; exact h) (fun γ L a w hH hl hA => by have l0 : L 4 = true := hA ⟨4, .data⟩ (by simp) rfl; have e0 := hH.slot 4 11 d4 l0; have g0 := hH.holds 4 l0; rw [r4] at g0; rw [g0] at e0; exact ⟨.pointer (some ⟨fb, 1, none⟩), by simp [execOp, go_sem, e0], (r5 _ _).mpr rfl⟩)) ?_
    refine RV.AllDo.cons 6 (RV.does_pure (fun γ v L w hl h => by rw [RV.more_ne (L := L) (i := 6) (j := 20) (by decide), RV.more_ne (L := L) (i := 6) (j := 21) (by decide)]; exact h) (fun γ L a w hH hl hA => by have l0 : L 5 = true := hA ⟨5, .data⟩ (by simp) rfl; have e0 := hH.slot 5 12 d5 l0; have g0 := hH.holds 5 l0; rw [r5] at g0; rw [g0] at e0; have z1 := (hH.glob.1.fr 1 _ rfl).1; have z2 := (hH.glob.1.fr 2 _ rfl).1; have z3 := (hH.glob.1.fr 3 _ rfl).1; have z4 := (hH.glob.1.fr 4 _ rfl).1; have z5 := (hH.glob.1.fr 5 _ rfl).1; have z6 := (hH.glob.1.fr 6 _ rfl).1; have z7 := (hH.glob.1.fr 7 _ rfl).1; have z8 := (hH.glob.1.fr 8 _ rfl).1; have z9 := (hH.glob.1.fr 9 _ rfl).1; exact ⟨.agg #[.int .i64 m0, .int .i64 m1, .int .i64 m2, .int .i64 m3, .int .i64 m4, .int .i64 m5, .int .i64 m6, .int .i64 m7, .int .i64 m8], by simp [execOp, go_sem, e0, z1, z2, z3, z4, z5, z6, z7, z8, z9], (r6 _ _).mpr rfl⟩)) ?_
    refine RV.AllDo.cons 7 (RV.does_pure (fun γ v L w hl h => by rw [RV.more_ne (L := L) (i := 7) (j := 20) (by decide), RV.more_ne (L := L) (i := 7) (j := 21) (by decide)]; exact h) (fun γ L a w hH hl hA => by have e0 := E4 γ L a w hH; exact ⟨.pointer (some ⟨pb, 0, none⟩), by simp [execOp, go_sem, e0], (r7 _ _).mpr rfl⟩)) ?_
    refine RV.AllDo.cons 8 (RV.does_pure (fun γ v L w hl h => by rw [RV.more_ne (L := L) (i := 8) (j := 20) (by decide), RV.more_ne (L := L) (i := 8) (j := 21) (by decide)]; exact h) (fun γ L a w hH hl hA => by have l0 : L 7 = true := hA ⟨7, .data⟩ (by simp) rfl; have e0 := hH.slot 7 14 d7 l0; have g0 := hH.holds 7 l0; rw [r7] at g0; rw [g0] at e0; have z9 := hH.glob.2.1.c0; exact ⟨.int .i64 x, by simp [execOp, go_sem, e0, z9], (r8 _ _).mpr rfl⟩)) ?_
    refine RV.AllDo.cons 9 (RV.does_pure (fun γ v L w hl h => by rw [RV.more_ne (L := L) (i := 9) (j := 20) (by decide), RV.more_ne (L := L) (i := 9) (j := 21) (by decide)]; exact h) (fun γ L a w hH hl hA => by have e0 := E2 γ L a w hH; exact ⟨.int .i64 n, by simp [execOp, go_sem, e0], (r9 _ _).mpr rfl⟩)) ?_
    refine RV.AllDo.cons 10 (RV.does_pure (fun γ v L w hl h => by rw [RV.more_ne (L := L) (i := 10) (j := 20) (by decide), RV.more_ne (L := L) (i := 10) (j := 21) (by decide)]; exact h) (fun γ L a w hH hl hA => by have l0 : L 8 = true := hA ⟨8, .data⟩ (by simp) rfl; have e0 := hH.slot 8 15 d8 l0; have g0 := hH.holds 8 l0; rw [r8] at g0; rw [g0] at e0; have l1 : L 9 = true := hA ⟨9, .data⟩ (by simp) rfl; have e1 := hH.slot 9 16 d9 l1; have g1 := hH.holds 9 l1; rw [r9] at g1; rw [g1] at e1; exact ⟨.int .i64 xn, by simp [execOp, go_sem, e0, e1, hxn], (r10 _ _).mpr rfl⟩)) ?_
    refine RV.AllDo.cons 11 (RV.does_pure (fun γ v L w hl h => by rw [RV.more_ne (L := L) (i := 11) (j := 20) (by decide), RV.more_ne (L := L) (i := 11) (j := 21) (by decide)]; exact h) (fun γ L a w hH hl hA => by have e0 := E4 γ L a w hH; exact ⟨.pointer (some ⟨pb, 1, none⟩), by simp [execOp, go_sem, e0], (r11 _ _).mpr rfl⟩)) ?_
    refine RV.AllDo.cons 12 (RV.does_pure (fun γ v L w hl h => by rw [RV.more_ne (L := L) (i := 12) (j := 20) (by decide), RV.more_ne (L := L) (i := 12) (j := 21) (by decide)]; exact h) (fun γ L a w hH hl hA => by have l0 : L 11 = true := hA ⟨11, .data⟩ (by simp) rfl; have e0 := hH.slot 11 18 d11 l0; have g0 := hH.holds 11 l0; rw [r11] at g0; rw [g0] at e0; have z9 := hH.glob.2.1.c1; exact ⟨.int .i64 y, by simp [execOp, go_sem, e0, z9], (r12 _ _).mpr rfl⟩)) ?_
    refine RV.AllDo.cons 13 (RV.does_pure (fun γ v L w hl h => by rw [RV.more_ne (L := L) (i := 13) (j := 20) (by decide), RV.more_ne (L := L) (i := 13) (j := 21) (by decide)]; exact h) (fun γ L a w hH hl hA => by have e0 := E2 γ L a w hH; exact ⟨.int .i64 n, by simp [execOp, go_sem, e0], (r13 _ _).mpr rfl⟩)) ?_
    refine RV.AllDo.cons 14 (RV.does_pure (fun γ v L w hl h => by rw [RV.more_ne (L := L) (i := 14) (j := 20) (by decide), RV.more_ne (L := L) (i := 14) (j := 21) (by decide)]; exact h) (fun γ L a w hH hl hA => by have l0 : L 12 = true := hA ⟨12, .data⟩ (by simp) rfl; have e0 := hH.slot 12 19 d12 l0; have g0 := hH.holds 12 l0; rw [r12] at g0; rw [g0] at e0; have l1 : L 13 = true := hA ⟨13, .data⟩ (by simp) rfl; have e1 := hH.slot 13 20 d13 l1; have g1 := hH.holds 13 l1; rw [r13] at g1; rw [g1] at e1; exact ⟨.int .i64 yn, by simp [execOp, go_sem, e0, e1, hyn], (r14 _ _).mpr rfl⟩)) ?_
    refine RV.AllDo.cons 15 (RV.does_pure (fun γ v L w hl h => by rw [RV.more_ne (L := L) (i := 15) (j := 20) (by decide), RV.more_ne (L := L) (i := 15) (j := 21) (by decide)]; exact h) (fun γ L a w hH hl hA => by have e0 := E4 γ L a w hH; exact ⟨.pointer (some ⟨pb, 2, none⟩), by simp [execOp, go_sem, e0], (r15 _ _).mpr rfl⟩)) ?_
    refine RV.AllDo.cons 16 (RV.does_pure (fun γ v L w hl h => by rw [RV.more_ne (L := L) (i := 16) (j := 20) (by decide), RV.more_ne (L := L) (i := 16) (j := 21) (by decide)]; exact h) (fun γ L a w hH hl hA => by have l0 : L 15 = true := hA ⟨15, .data⟩ (by simp) rfl; have e0 := hH.slot 15 22 d15 l0; have g0 := hH.holds 15 l0; rw [r15] at g0; rw [g0] at e0; have z9 := hH.glob.2.1.c2; exact ⟨.int .i64 z, by simp [execOp, go_sem, e0, z9], (r16 _ _).mpr rfl⟩)) ?_
    refine RV.AllDo.cons 17 (RV.does_pure (fun γ v L w hl h => by rw [RV.more_ne (L := L) (i := 17) (j := 20) (by decide), RV.more_ne (L := L) (i := 17) (j := 21) (by decide)]; exact h) (fun γ L a w hH hl hA => by have e0 := E2 γ L a w hH; exact ⟨.int .i64 n, by simp [execOp, go_sem, e0], (r17 _ _).mpr rfl⟩)) ?_
    refine RV.AllDo.cons 18 (RV.does_pure (fun γ v L w hl h => by rw [RV.more_ne (L := L) (i := 18) (j := 20) (by decide), RV.more_ne (L := L) (i := 18) (j := 21) (by decide)]; exact h) (fun γ L a w hH hl hA => by have l0 : L 16 = true := hA ⟨16, .data⟩ (by simp) rfl; have e0 := hH.slot 16 23 d16 l0; have g0 := hH.holds 16 l0; rw [r16] at g0; rw [g0] at e0; have l1 : L 17 = true := hA ⟨17, .data⟩ (by simp) rfl; have e1 := hH.slot 17 24 d17 l1; have g1 := hH.holds 17 l1; rw [r17] at g1; rw [g1] at e1; exact ⟨.int .i64 zn, by simp [execOp, go_sem, e0, e1, hzn], (r18 _ _).mpr rfl⟩)) ?_
    refine RV.AllDo.cons 19 (RV.does_pure (fun γ v L w hl h => by rw [RV.more_ne (L := L) (i := 19) (j := 20) (by decide), RV.more_ne (L := L) (i := 19) (j := 21) (by decide)]; exact h) (fun γ L a w hH hl hA => by have l0 : L 10 = true := hA ⟨10, .data⟩ (by simp) rfl; have e0 := hH.slot 10 17 d10 l0; have g0 := hH.holds 10 l0; rw [r10] at g0; rw [g0] at e0; have l1 : L 14 = true := hA ⟨14, .data⟩ (by simp) rfl; have e1 := hH.slot 14 21 d14 l1; have g1 := hH.holds 14 l1; rw [r14] at g1; rw [g1] at e1; have l2 : L 18 = true := hA ⟨18, .data⟩ (by simp) rfl; have e2 := hH.slot 18 25 d18 l2; have g2 := hH.holds 18 l2; rw [r18] at g2; rw [g2] at e2; exact ⟨.agg #[.int .i64 xn, .int .i64 yn, .int .i64 zn], by simp [execOp, go_sem, e0, e1, e2], (r19 _ _).mpr rfl⟩)) ?_
    refine RV.AllDo.cons 20 (RV.does_call (fun γ L a w hH hl hA => by have l0 : L 2 = true := hA ⟨2, .data⟩ (by simp) rfl; have e0 := hH.slot 2 9 d2 l0; have g0 := hH.holds 2 l0; rw [r2] at g0; rw [g0] at e0; have l1 : L 6 = true := hA ⟨6, .data⟩ (by simp) rfl; have e1 := hH.slot 6 13 d6 l1; have g1 := hH.holds 6 l1; rw [r6] at g1; rw [g1] at e1; have l2 : L 19 = true := hA ⟨19, .data⟩ (by simp) rfl; have e2 := hH.slot 19 26 d19 l2; have g2 := hH.holds 19 l2; rw [r19] at g2; rw [g2] at e2; have z0 := hH.glob.1.fr 0 _ rfl; have hG := hH.glob; rw [hl] at z0 hG; refine ⟨96, #[.pointer (some ⟨fb, 0, none⟩), .agg #[.int .i64 m0, .int .i64 m1, .int .i64 m2, .int .i64 m3, .int .i64 m4, .int .i64 m5, .int .i64 m6, .int .i64 m7, .int .i64 m8], .agg #[.int .i64 xn, .int .i64 yn, .int .i64 zn]], by simp [go_sem, e0, e1, e2], Calls.mono (HT.out w _ z0.1 z0.2) ?_⟩; rintro e w2 ⟨rfl, A⟩; refine ⟨_, rfl, (r20 _ _).mpr rfl, fun j v _ h => K j v _ _ h, ?_⟩; rw [RV.more_self, RV.more_ne (L := L) (i := 20) (j := 21) (by decide)]; have A9 := A.out; simp only [Bool.false_and, Bool.or_false] at A9; exact ⟨by simpa using hG.1.after A9, hG.2.1.after A9 hpf, hG.2.2.after A9 hof⟩)) ?_
    refine RV.AllDo.cons 21 (RV.does_store (fun γ L a w hH hl hA => by have e0 := E6 γ L a w hH; have l1 : L 20 = true := hA ⟨20, .data⟩ (by simp) rfl; have e1 := hH.slot 20 27 d20 l1; have g1 := hH.holds 20 l1; rw [r20] at g1; rw [g1] at e1; have hG := hH.glob; have zz := hG.2.2; refine ⟨set3 w ob xq yq zq, by simp [execOp, go_sem, e0, e1, set3, zz.c0, zz.c1, zz.c2, zz.f0, zz.f1, zz.f2], (r21 _ _).mpr trivial, fun j v _ h => K j v _ _ h, ?_⟩; rw [RV.more_self, RV.more_ne (L := L) (i := 21) (j := 20) (by decide)]; exact ⟨hG.1.set3 _ _ _ hob hof, hG.2.1.other hop _ _ _, zz.set _ _ _⟩)) ?_
    exact RV.AllDo.nil
  · intro γ a5 w5 L9 hL hLo hH
    have ha := RV.held_act hH hL (by kernel_rfl) (by kernel_rfl)
    have hG := hH.glob
    rw [hL 20 (by decide), hL 21 (by decide)] at hG
    rw [ha]
    clear ha hH hL hLo
    simp only [RV.putAll, Act.put, List.setIfInBounds_toArray, List.set_cons_zero, List.set_cons_succ, Nat.zero_add, Nat.reduceAdd]
    obtain ⟨q0, q1, q2⟩ : _ ∧ _ ∧ _ := ⟨hG.2.2.c0, hG.2.2.c1, hG.2.2.c2⟩
    dsimp only [cond] at q0 q1 q2
    have HA : Hid (After ⟨fb, 0, none⟩ (f || bd) w0 w5) := by show After _ _ _ _; have h9 := hG.1.done; simpa using h9
    clear hG
    go_wp2
    exact bodyPost_ret (v := .agg #[.int .i64 xq, .int .i64 yq, .int .i64 zq]) (by simp [results, Tryz.results55, go_sem, q0, q1, q2]) rfl ⟨rfl, HA⟩
theorem arr3' {cs : Array Value} (h : cs.size = 3) : ∃ u0 u1 u2, cs = #[u0, u1, u2] := by
  obtain ⟨l⟩ := cs
  match l, h with
  | [a, b, c], _ => exact ⟨a, b, c, rfl⟩
/-- Where a point comes to, in FX and in grains; whether something was too great. -/
def M9.at1 (m : M9) (p : Pt) : Pt := (m.turn (p.times 1048576)).getD Pt.O
def M9.at2 (m : M9) (t p : Pt) : Pt := ((m.at1 p).addO t).getD Pt.O
def Pt.grain (p : Pt) : Pt := ⟨p.x / 1048576, p.y / 1048576, p.z / 1048576⟩
def M9.ptV (m : M9) (t p : Pt) : Pt := (m.at2 t p).grain
def M9.ptB (m : M9) (t p : Pt) : Bool := (m.turn (p.times 1048576)).isNone || ((m.at1 p).addO t).isNone
set_option maxHeartbeats 4000000 in
set_option maxRecDepth 100000 in
theorem point_any (fb : Nat) (f : Bool) (m : M9) (t p : Pt) (w0 : World) (hF : Cells w0 fb (frL f m t)) :
    Calls Tryz.prog 22 #[.pointer (some ⟨fb, 0, none⟩), p.v] w0 fun e W => e = .returned (m.ptV t p).v ∧ Hid (After ⟨fb, 0, none⟩ (f || m.ptB t p) w0 W) := by
  have HT : Hid _ := fun (w : World) (g : Bool) => turned_any fb g m t p 1048576 w
  have HS : Hid _ := fun (w : World) (g : Bool) => vadd_pt fb 0 g (m.at1 p) t w
  have hlt := hF.lt
  rw [show m.ptV t p = (m.at2 t p).grain from rfl, show m.ptB t p = ((m.turn (p.times 1048576)).isNone || ((m.at1 p).addO t).isNone) from rfl]
  rw [show ((m.at1 p).addO t).getD Pt.O = m.at2 t p from rfl] at HS
  rw [show (m.turn (p.times 1048576)).getD Pt.O = m.at1 p from rfl] at HT
  generalize m.at2 t p = q2 at *
  generalize ((m.at1 p).addO t).isNone = b2 at *
  generalize m.at1 p = q1 at *
  generalize (m.turn (p.times 1048576)).isNone = b1 at *
  rw [← Bool.or_assoc]
  obtain ⟨m0, m1, m2, m3, m4, m5, m6, m7, m8⟩ := m
  obtain ⟨tx, ty, tz⟩ := t
  obtain ⟨x, y, z⟩ := p
  obtain ⟨x1, y1, z1⟩ := q1
  obtain ⟨x2, y2, z2⟩ := q2
  unfold Pt.v at HT HS
  unfold Pt.v Pt.grain
  dsimp only at *
  go_enter Tryz.func22, Tryz.ntmps22
  go_upto_region 1 with fail
  obtain ⟨V, hV⟩ : ∃ V : World, V = (w0.alloc (.cells #[.int .i64 x, .int .i64 y, .int .i64 z] 31)).alloc (.cells #[.int .i64 0, .int .i64 0, .int .i64 0] 31) := ⟨_, rfl⟩
  obtain ⟨pb, hpb⟩ : ∃ b, b = w0.heap.size := ⟨_, rfl⟩
  obtain ⟨ob, hob'⟩ : ∃ b, b = w0.heap.size + 1 := ⟨_, rfl⟩
  have hBV : Hid (Below w0.heap.size w0 V) := by show Below _ _ _; rw [hV]; exact b_step (n_after _ _) (n_after _ _)
  have hVs : V.heap.size = w0.heap.size + 2 := by rw [hV]; simp
  have B1 : Box3 V pb ⟨x, y, z⟩ := by rw [hV, hpb]; exact (Box3.new w0 x y z _).step (n_after _ _)
  have B2 : Box3 V ob Pt.O := by rw [hV, hob']; have := Box3.new (w0.alloc (.cells #[.int .i64 x, .int .i64 y, .int .i64 z] 31)) 0 0 0 31; rwa [World.size_alloc] at this
  rw [← hV, ← hob', ← hpb]
  have hob : w0.heap.size ≤ ob := by omega
  have hof : ob ≠ fb := by omega
  have hpf : pb ≠ fb := by omega
  have hfV : fb < V.heap.size := by omega
  have hpV : pb < V.heap.size := by omega
  have hoV : ob < V.heap.size := by omega
  clear hV hpb hob'
  refine RV.region_by (fun j v w => match j with | 0 => v = .pointer (some ⟨fb, 0, none⟩) | 1 => v = .pointer (some ⟨fb, 0, none⟩) | 2 => v = .pointer (some ⟨fb, 0, none⟩) | 3 => v = .pointer (some ⟨fb, 0, none⟩) | 4 => v = .agg #[.int .i64 x, .int .i64 y, .int .i64 z] | 5 => v = .agg #[.int .i64 x1, .int .i64 y1, .int .i64 z1] | 6 => v = .pointer (some ⟨fb, 0, none⟩) | 7 => v = .pointer (some ⟨fb, 0, none⟩) | 8 => v = .pointer (some ⟨fb, 10, none⟩) | 9 => v = .agg #[.int .i64 tx, .int .i64 ty, .int .i64 tz] | 10 => v = .agg #[.int .i64 x2, .int .i64 y2, .int .i64 z2] | 11 => True | 12 => True | _ => True) (fun γ L w => FG w0 fb (f || (L 5 && b1) || (L 10 && b2)) ⟨m0, m1, m2, m3, m4, m5, m6, m7, m8⟩ ⟨tx, ty, tz⟩ w ∧ Box3 w pb ⟨x, y, z⟩ ∧ Box3 w ob Pt.O ∧ RV.Pend V 26 11 12 #[.int .i64 x2, .int .i64 y2, .int .i64 z2] γ L w ∧ V.heap.size ≤ w.heap.size) (by kernel_rfl) (by kernel_rfl) (by kernel_rfl) (by kernel_rfl) ?_ ?_ ?_
  · have b9 : Below V.heap.size V V.drew := (Below.refl _ _).drew; simp only [Bool.false_and, Bool.or_false]; exact ⟨(FG.start hF hBV.out).step b9, B1.step b9, B2.step b9, RV.Pend.start rfl, Nat.le_refl _⟩
  · generalize hD : dstOf _ = D
    generalize hWA : waitsFor _ = WA
    generalize hZ : Act.mk _ _ = Z
    obtain ⟨R, hR⟩ : ∃ R : Nat → Value → World → Prop, R = (fun j v w => match j with | 0 => v = .pointer (some ⟨fb, 0, none⟩) | 1 => v = .pointer (some ⟨fb, 0, none⟩) | 2 => v = .pointer (some ⟨fb, 0, none⟩) | 3 => v = .pointer (some ⟨fb, 0, none⟩) | 4 => v = .agg #[.int .i64 x, .int .i64 y, .int .i64 z] | 5 => v = .agg #[.int .i64 x1, .int .i64 y1, .int .i64 z1] | 6 => v = .pointer (some ⟨fb, 0, none⟩) | 7 => v = .pointer (some ⟨fb, 0, none⟩) | 8 => v = .pointer (some ⟨fb, 10, none⟩) | 9 => v = .agg #[.int .i64 tx, .int .i64 ty, .int .i64 tz] | 10 => v = .agg #[.int .i64 x2, .int .i64 y2, .int .i64 z2] | 11 => True | 12 => True | _ => True) := ⟨_, rfl⟩
    rw [← hR]
    have d0 : D 0 = some 6 := by rw [← hD]; rfl
    have d1 : D 1 = some 7 := by rw [← hD]; rfl
    have d2 : D 2 = some 8 := by rw [← hD]; rfl
    have d3 : D 3 = some 9 := by rw [← hD]; rfl
    have d4 : D 4 = some 10 := by rw [← hD]; rfl
    have d5 : D 5 = some 11 := by rw [← hD]; rfl
    have d6 : D 6 = some 12 := by rw [← hD]; rfl
    have d7 : D 7 = some 13 := by rw [← hD]; rfl
    have d8 : D 8 = some 14 := by rw [← hD]; rfl
    have d9 : D 9 = some 15 := by rw [← hD]; rfl
    have d10 : D 10 = some 16 := by rw [← hD]; rfl
    have d11 : D 11 = some 5 := by rw [← hD]; rfl
    have r0 : ∀ v w, R 0 v w = (v = .pointer (some ⟨fb, 0, none⟩)) := fun v w => by rw [hR]; rfl
    have r1 : ∀ v w, R 1 v w = (v = .pointer (some ⟨fb, 0, none⟩)) := fun v w => by rw [hR]; rfl
    have r2 : ∀ v w, R 2 v w = (v = .pointer (some ⟨fb, 0, none⟩)) := fun v w => by rw [hR]; rfl
    have r3 : ∀ v w, R 3 v w = (v = .pointer (some ⟨fb, 0, none⟩)) := fun v w => by rw [hR]; rfl
    have r4 : ∀ v w, R 4 v w = (v = .agg #[.int .i64 x, .int .i64 y, .int .i64 z]) := fun v w => by rw [hR]; rfl
    have r5 : ∀ v w, R 5 v w = (v = .agg #[.int .i64 x1, .int .i64 y1, .int .i64 z1]) := fun v w => by rw [hR]; rfl
    have r6 : ∀ v w, R 6 v w = (v = .pointer (some ⟨fb, 0, none⟩)) := fun v w => by rw [hR]; rfl
    have r7 : ∀ v w, R 7 v w = (v = .pointer (some ⟨fb, 0, none⟩)) := fun v w => by rw [hR]; rfl
    have r8 : ∀ v w, R 8 v w = (v = .pointer (some ⟨fb, 10, none⟩)) := fun v w => by rw [hR]; rfl
    have r9 : ∀ v w, R 9 v w = (v = .agg #[.int .i64 tx, .int .i64 ty, .int .i64 tz]) := fun v w => by rw [hR]; rfl
    have r10 : ∀ v w, R 10 v w = (v = .agg #[.int .i64 x2, .int .i64 y2, .int .i64 z2]) := fun v w => by rw [hR]; rfl
    have r11 : ∀ v w, R 11 v w = (True) := fun v w => by rw [hR]; rfl
    have r12 : ∀ v w, R 12 v w = (True) := fun v w => by rw [hR]; rfl
    have E0 : ∀ (γ : Nat → Value) (L : Nat → Bool) (a : Act) (w : World), RV.Held D WA R (fun γ L w => FG w0 fb (f || (L 5 && b1) || (L 10 && b2)) ⟨m0, m1, m2, m3, m4, m5, m6, m7, m8⟩ ⟨tx, ty, tz⟩ w ∧ Box3 w pb ⟨x, y, z⟩ ∧ Box3 w ob Pt.O ∧ RV.Pend V 26 11 12 #[.int .i64 x2, .int .i64 y2, .int .i64 z2] γ L w ∧ V.heap.size ≤ w.heap.size) Z γ L a w → a.tmps[0]? = some (.pointer (some ⟨fb, 0, none⟩)) := fun γ L a w hH => (hH.rest 0 (by rw [← hD]; exact RV.dst_free (by kernel_rfl))).trans (by rw [← hZ]; rfl)
    have E3 : ∀ (γ : Nat → Value) (L : Nat → Bool) (a : Act) (w : World), RV.Held D WA R (fun γ L w => FG w0 fb (f || (L 5 && b1) || (L 10 && b2)) ⟨m0, m1, m2, m3, m4, m5, m6, m7, m8⟩ ⟨tx, ty, tz⟩ w ∧ Box3 w pb ⟨x, y, z⟩ ∧ Box3 w ob Pt.O ∧ RV.Pend V 26 11 12 #[.int .i64 x2, .int .i64 y2, .int .i64 z2] γ L w ∧ V.heap.size ≤ w.heap.size) Z γ L a w → a.tmps[3]? = some (.pointer (some ⟨pb, 0, none⟩)) := fun γ L a w hH => (hH.rest 3 (by rw [← hD]; exact RV.dst_free (by kernel_rfl))).trans (by rw [← hZ]; rfl)
    have K : ∀ j v w w', R j v w → R j v w' := by rw [hR]; intro j v w w' h; exact h
    have A_12_11 : WA 12 11 := by rw [← hWA]; exact ⟨_, rfl, ⟨11, .data⟩, by simp, rfl, rfl⟩
    clear hD hWA hZ hR
    refine RV.AllDo.cons 0 (RV.does_pure (fun γ v L w hl h => ⟨by rw [RV.more_ne (L := L) (i := 0) (j := 5) (by decide), RV.more_ne (L := L) (i := 0) (j := 10) (by decide)]; exact h.1, h.2.1, h.2.2.1, h.2.2.2.1.other v (by decide) (by decide), h.2.2.2.2⟩) (fun γ L a w hH hl hA => by have e0 := E0 γ L a w hH; exact ⟨.pointer (some ⟨fb, 0, none⟩), by simp [execOp, go_sem, e0], (r0 _ _).mpr rfl⟩)) ?_
    refine RV.AllDo.cons 1 (RV.does_pure (fun γ v L w hl h => ⟨by rw [RV.more_ne (L := L) (i := 1) (j := 5) (by decide), RV.more_ne (L := L) (i := 1) (j := 10) (by decide)]; exact h.1, h.2.1, h.2.2.1, h.2.2.2.1.other v (by decide) (by decide), h.2.2.2.2⟩) (fun γ L a w hH hl hA => by have l0 : L 0 = true := hA ⟨0, .data⟩ (by simp) rfl; have e0 := hH.slot 0 6 d0 l0; have g0 := hH.holds 0 l0; rw [r0] at g0; rw [g0] at e0; exact ⟨.pointer (some ⟨fb, 0, none⟩), by simp [execOp, go_sem, e0], (r1 _ _).mpr rfl⟩)) ?_
    refine RV.AllDo.cons 2 (RV.does_pure (fun γ v L w hl h => ⟨by rw [RV.more_ne (L := L) (i := 2) (j := 5) (by decide), RV.more_ne (L := L) (i := 2) (j := 10) (by decide)]; exact h.1, h.2.1, h.2.2.1, h.2.2.2.1.other v (by decide) (by decide), h.2.2.2.2⟩) (fun γ L a w hH hl hA => by have l0 : L 1 = true := hA ⟨1, .data⟩ (by simp) rfl; have e0 := hH.slot 1 7 d1 l0; have g0 := hH.holds 1 l0; rw [r1] at g0; rw [g0] at e0; exact ⟨.pointer (some ⟨fb, 0, none⟩), by simp [execOp, go_sem, e0], (r2 _ _).mpr rfl⟩)) ?_
    refine RV.AllDo.cons 3 (RV.does_pure (fun γ v L w hl h => ⟨by rw [RV.more_ne (L := L) (i := 3) (j := 5) (by decide), RV.more_ne (L := L) (i := 3) (j := 10) (by decide)]; exact h.1, h.2.1, h.2.2.1, h.2.2.2.1.other v (by decide) (by decide), h.2.2.2.2⟩) (fun γ L a w hH hl hA => by have e0 := E0 γ L a w hH; exact ⟨.pointer (some ⟨fb, 0, none⟩), by simp [execOp, go_sem, e0], (r3 _ _).mpr rfl⟩)) ?_
    refine RV.AllDo.cons 4 (RV.does_pure (fun γ v L w hl h => ⟨by rw [RV.more_ne (L := L) (i := 4) (j := 5) (by decide), RV.more_ne (L := L) (i := 4) (j := 10) (by decide)]; exact h.1, h.2.1, h.2.2.1, h.2.2.2.1.other v (by decide) (by decide), h.2.2.2.2⟩) (fun γ L a w hH hl hA => by have e0 := E3 γ L a w hH; have wz0 := hH.glob.2.1.c0; have wz1 := hH.glob.2.1.c1; have wz2 := hH.glob.2.1.c2; exact ⟨.agg #[.int .i64 x, .int .i64 y, .int .i64 z], by simp [execOp, go_sem, e0, wz0, wz1, wz2], (r4 _ _).mpr rfl⟩)) ?_
    refine RV.AllDo.cons 5 (RV.does_call (fun γ L a w hH hl hA => by have l0 : L 3 = true := hA ⟨3, .data⟩ (by simp) rfl; have e0 := hH.slot 3 9 d3 l0; have g0 := hH.holds 3 l0; rw [r3] at g0; rw [g0] at e0; have l1 : L 4 = true := hA ⟨4, .data⟩ (by simp) rfl; have e1 := hH.slot 4 10 d4 l1; have g1 := hH.holds 4 l1; rw [r4] at g1; rw [g1] at e1; have hG := hH.glob; rw [hl] at hG; refine ⟨55, #[.pointer (some ⟨fb, 0, none⟩), .agg #[.int .i64 x, .int .i64 y, .int .i64 z], .int .i64 1048576], by simp [go_sem, e0, e1], Calls.mono (HT.out w _ hG.1.fr) ?_⟩; rintro e w2 ⟨rfl, A⟩; refine ⟨_, rfl, (r5 _ _).mpr rfl, fun j v _ h => K j v _ _ h, ?_⟩; rw [RV.more_self, RV.more_ne (L := L) (i := 5) (j := 10) (by decide)]; have A9 := A.out; exact ⟨by have q9 := hG.1.after A9; revert q9; cases f <;> cases b1 <;> cases b2 <;> cases L 10 <;> exact id, hG.2.1.after A9 hpf, hG.2.2.1.after A9 hof, (hG.2.2.2.1.after A9 hfV).other _ (by decide) (by decide), Nat.le_trans hG.2.2.2.2 A9.size⟩)) ?_
    refine RV.AllDo.cons 6 (RV.does_pure (fun γ v L w hl h => ⟨by rw [RV.more_ne (L := L) (i := 6) (j := 5) (by decide), RV.more_ne (L := L) (i := 6) (j := 10) (by decide)]; exact h.1, h.2.1, h.2.2.1, h.2.2.2.1.other v (by decide) (by decide), h.2.2.2.2⟩) (fun γ L a w hH hl hA => by have e0 := E0 γ L a w hH; exact ⟨.pointer (some ⟨fb, 0, none⟩), by simp [execOp, go_sem, e0], (r6 _ _).mpr rfl⟩)) ?_
    refine RV.AllDo.cons 7 (RV.does_pure (fun γ v L w hl h => ⟨by rw [RV.more_ne (L := L) (i := 7) (j := 5) (by decide), RV.more_ne (L := L) (i := 7) (j := 10) (by decide)]; exact h.1, h.2.1, h.2.2.1, h.2.2.2.1.other v (by decide) (by decide), h.2.2.2.2⟩) (fun γ L a w hH hl hA => by have l0 : L 6 = true := hA ⟨6, .data⟩ (by simp) rfl; have e0 := hH.slot 6 12 d6 l0; have g0 := hH.holds 6 l0; rw [r6] at g0; rw [g0] at e0; exact ⟨.pointer (some ⟨fb, 0, none⟩), by simp [execOp, go_sem, e0], (r7 _ _).mpr rfl⟩)) ?_
    refine RV.AllDo.cons 8 (RV.does_pure (fun γ v L w hl h => ⟨by rw [RV.more_ne (L := L) (i := 8) (j := 5) (by decide), RV.more_ne (L := L) (i := 8) (j := 10) (by decide)]; exact h.1, h.2.1, h.2.2.1, h.2.2.2.1.other v (by decide) (by decide), h.2.2.2.2⟩) (fun γ L a w hH hl hA => by have l0 : L 7 = true := hA ⟨7, .data⟩ (by simp) rfl; have e0 := hH.slot 7 13 d7 l0; have g0 := hH.holds 7 l0; rw [r7] at g0; rw [g0] at e0; exact ⟨.pointer (some ⟨fb, 10, none⟩), by simp [execOp, go_sem, e0], (r8 _ _).mpr rfl⟩)) ?_
    refine RV.AllDo.cons 9 (RV.does_pure (fun γ v L w hl h => ⟨by rw [RV.more_ne (L := L) (i := 9) (j := 5) (by decide), RV.more_ne (L := L) (i := 9) (j := 10) (by decide)]; exact h.1, h.2.1, h.2.2.1, h.2.2.2.1.other v (by decide) (by decide), h.2.2.2.2⟩) (fun γ L a w hH hl hA => by have l0 : L 8 = true := hA ⟨8, .data⟩ (by simp) rfl; have e0 := hH.slot 8 14 d8 l0; have g0 := hH.holds 8 l0; rw [r8] at g0; rw [g0] at e0; have wz0 := (hH.glob.1.fr 10 _ rfl).1; have wz1 := (hH.glob.1.fr 11 _ rfl).1; have wz2 := (hH.glob.1.fr 12 _ rfl).1; exact ⟨.agg #[.int .i64 tx, .int .i64 ty, .int .i64 tz], by simp [execOp, go_sem, e0, wz0, wz1, wz2], (r9 _ _).mpr rfl⟩)) ?_
    refine RV.AllDo.cons 10 (RV.does_call (fun γ L a w hH hl hA => by have l0 : L 2 = true := hA ⟨2, .data⟩ (by simp) rfl; have e0 := hH.slot 2 8 d2 l0; have g0 := hH.holds 2 l0; rw [r2] at g0; rw [g0] at e0; have l1 : L 5 = true := hA ⟨5, .data⟩ (by simp) rfl; have e1 := hH.slot 5 11 d5 l1; have g1 := hH.holds 5 l1; rw [r5] at g1; rw [g1] at e1; have l2 : L 9 = true := hA ⟨9, .data⟩ (by simp) rfl; have e2 := hH.slot 9 15 d9 l2; have g2 := hH.holds 9 l2; rw [r9] at g2; rw [g2] at e2; have hG := hH.glob; rw [hl] at hG; have z0 := hG.1.fr 0 _ rfl; refine ⟨54, #[.pointer (some ⟨fb, 0, none⟩), .agg #[.int .i64 x1, .int .i64 y1, .int .i64 z1], .agg #[.int .i64 tx, .int .i64 ty, .int .i64 tz]], by simp [go_sem, e0, e1, e2], Calls.mono (HS.out w _ z0.1 z0.2) ?_⟩; rintro e w2 ⟨rfl, A⟩; refine ⟨_, rfl, (r10 _ _).mpr rfl, fun j v _ h => K j v _ _ h, ?_⟩; rw [RV.more_self, RV.more_ne (L := L) (i := 10) (j := 5) (by decide)]; have A9 := A.out; exact ⟨by have q9 := hG.1.after A9; revert q9; cases f <;> cases b1 <;> cases b2 <;> cases L 5 <;> exact id, hG.2.1.after A9 hpf, hG.2.2.1.after A9 hof, (hG.2.2.2.1.after A9 hfV).other _ (by decide) (by decide), Nat.le_trans hG.2.2.2.2 A9.size⟩)) ?_
    refine RV.AllDo.cons 11 (RV.does_step (fun γ L a w hH hl hA => by have hG := hH.glob; have h12 : L 12 = false := RV.not_yet hH A_12_11 hl; exact ⟨.pointer (some ⟨w.heap.size, 0, none⟩), w.alloc (.cells #[.int .i64 0, .int .i64 0, .int .i64 0] 26), by simp [execOp, go_sem], (r11 _ _).mpr trivial, fun j v _ h => K j v _ _ h, by rw [RV.more_ne (L := L) (i := 11) (j := 5) (by decide), RV.more_ne (L := L) (i := 11) (j := 10) (by decide)]; exact hG.1.step (n_after _ _), hG.2.1.step (n_after _ _), hG.2.2.1.step (n_after _ _), RV.Pend.made _ rfl hG.2.2.2.2 h12 (by decide), by rw [World.size_alloc]; have h8 := hG.2.2.2.2; omega⟩)) ?_
    refine RV.AllDo.cons 12 (RV.does_store (fun γ L a w hH hl hA => by have l0 : L 11 = true := hA ⟨11, .data⟩ (by simp) rfl; have e0 := hH.slot 11 5 d11 l0; have g0 := hH.holds 11 l0; rw [r11] at g0; have l1 : L 10 = true := hA ⟨10, .data⟩ (by simp) rfl; have e1 := hH.slot 10 16 d10 l1; have g1 := hH.holds 10 l1; rw [r10] at g1; rw [g1] at e1; have hG := hH.glob; obtain ⟨b, cs, hb1, hb2, hb3, hb4, _⟩ := hG.2.2.2.1 l0; rw [hb1] at e0; obtain ⟨u0, u1, u2, rfl⟩ := arr3' hb4; have wz0 : w.cell? ⟨b, 0, none⟩ = some u0 := (by simp [World.cell?, hb3]); have wz1 : w.cell? ⟨b, 1, none⟩ = some u1 := (by simp [World.cell?, hb3]); have wz2 : w.cell? ⟨b, 2, none⟩ = some u2 := (by simp [World.cell?, hb3]); have zf : ∀ o, w.frozen? ⟨b, o, none⟩ = false := fun o => (by simp [World.frozen?, hb3]); have hbf : b ≠ fb := (by omega); have hbw : w0.heap.size ≤ b := (by omega); exact ⟨(((w.setCell ⟨b, 0, none⟩ (.int .i64 x2)).setCell ⟨b, 1, none⟩ (.int .i64 y2)).setCell ⟨b, 2, none⟩ (.int .i64 z2)), by simp [execOp, go_sem, e0, e1, wz0, wz1, wz2, zf], (r12 _ _).mpr trivial, fun j v _ h => K j v _ _ h, by rw [RV.more_ne (L := L) (i := 12) (j := 5) (by decide), RV.more_ne (L := L) (i := 12) (j := 10) (by decide)]; exact hG.1.set3 x2 y2 z2 hbw hbf, hG.2.1.other (by omega) x2 y2 z2, hG.2.2.1.other (by omega) x2 y2 z2, RV.Pend.filled hb1 hb2 (by have q0 := Go.heap_setCell_same w b 0 _ _ (.int .i64 x2) hb3; have q1 := Go.heap_setCell_same _ b 1 _ _ (.int .i64 y2) q0; have q2 := Go.heap_setCell_same _ b 2 _ _ (.int .i64 z2) q1; simpa using q2) (by decide) _, by have h8 := hG.2.2.2.2; simpa [World.setCell] using h8⟩)) ?_
    exact RV.AllDo.nil
  · intro γ a5 w5 L9 hL hLo hH
    have ha := RV.held_act hH hL (by kernel_rfl) (by kernel_rfl)
    have hG := hH.glob
    rw [hL 5 (by decide), hL 10 (by decide)] at hG
    obtain ⟨b3, cs, hb1, hb2, hb3, _, hb5⟩ := hG.2.2.2.1 (hL 11 (by decide))
    rw [hb5 (hL 12 (by decide))] at hb3
    rw [ha]
    clear ha hH hL hLo hb5
    simp only [RV.putAll, Act.put, List.setIfInBounds_toArray, List.set_cons_zero, List.set_cons_succ, Nat.zero_add, Nat.reduceAdd]
    rw [hb1]
    have c0 : w5.cell? ⟨b3, 0, none⟩ = some (.int .i64 x2) := by simp [World.cell?, hb3]
    have c1 : w5.cell? ⟨b3, 1, none⟩ = some (.int .i64 y2) := by simp [World.cell?, hb3]
    have c2 : w5.cell? ⟨b3, 2, none⟩ = some (.int .i64 z2) := by simp [World.cell?, hb3]
    obtain ⟨o0, o1, o2, p0, p1, p2⟩ := hG.2.2.1
    dsimp only [Pt.O] at o0 o1 o2
    have HA : Hid (FG w0 fb (f || b1 || b2) ⟨m0, m1, m2, m3, m4, m5, m6, m7, m8⟩ ⟨tx, ty, tz⟩ w5) := by show FG _ _ _ _ _ _; have h9 := hG.1; simpa using h9
    clear hG hb1 hb3
    go_wp2
    refine bodyPost_ret (v := .agg #[.int .i64 (x2 / 1048576), .int .i64 (y2 / 1048576), .int .i64 (z2 / 1048576)]) (by simp [results, Tryz.results22, go_sem, o0, o1, o2]) rfl ⟨rfl, ?_⟩
    exact (HA.out.set3 _ _ _ hob hof).done
theorem Cells.apart {W : World} {b b' : Nat} {vs : List Value} (h : Cells W b vs) (hne : b ≠ b') (o : Nat) (u : Value) : Cells (W.setCell ⟨b', o, none⟩ u) b vs := fun i v e =>
  ⟨by simp [go_sem, (h i v e).1], by simp [go_sem, (h i v e).2]⟩
/-- A turn as it is handed in. -/
structure Q4 where
  w : Int
  x : Int
  y : Int
  z : Int
def rowsB (q : Q4) : Bool := rowsBad q.w q.x q.y q.z
def rowsM (q : Q4) : M9 := ⟨cond (rowsB q) 0 (rowsAt0 q.w q.x q.y q.z), cond (rowsB q) 0 (rowsAt1 q.w q.x q.y q.z), cond (rowsB q) 0 (rowsAt2 q.w q.x q.y q.z), cond (rowsB q) 0 (rowsAt3 q.w q.x q.y q.z), cond (rowsB q) 0 (rowsAt4 q.w q.x q.y q.z), cond (rowsB q) 0 (rowsAt5 q.w q.x q.y q.z), cond (rowsB q) 0 (rowsAt6 q.w q.x q.y q.z), cond (rowsB q) 0 (rowsAt7 q.w q.x q.y q.z), cond (rowsB q) 0 (rowsAt8 q.w q.x q.y q.z)⟩
def poseV (t : Pt) (q : Q4) : Value := .agg #[.int .i64 t.x, .int .i64 t.y, .int .i64 t.z, .int .i64 q.w, .int .i64 q.x, .int .i64 q.y, .int .i64 q.z]
theorem vrows_m (b off : Nat) (f : Bool) (q : Q4) (W : World) (hc : W.cell? ⟨b, off, none⟩ = some (.bool f)) (hf : W.frozen? ⟨b, off, none⟩ = false) :
    Calls Tryz.prog 52 #[.pointer (some ⟨b, off, none⟩), .agg #[.int .i64 q.w, .int .i64 q.x, .int .i64 q.y, .int .i64 q.z]] W fun e W' => e = .returned (rowsM q).v ∧ Hid (After ⟨b, off, none⟩ (f || rowsB q) W W') :=
  vrows_law b off f q.w q.x q.y q.z W hc hf
set_option maxHeartbeats 4000000 in
set_option maxRecDepth 100000 in
theorem framed_any (t : Pt) (q : Q4) (w0 : World) :
    Calls Tryz.prog 19 #[poseV t q] w0 fun e W => ∃ fb, e = .returned (.pointer (some ⟨fb, 0, none⟩)) ∧ w0.heap.size ≤ fb ∧ Cells W fb (frL (rowsB q) (rowsM q) t) ∧ Below w0.heap.size w0 W := by
  have HR : Hid _ := fun (b : Nat) (w : World) (g : Bool) => vrows_m b 0 g q w
  generalize rowsM q = m at *
  generalize rowsB q = bd at *
  obtain ⟨m0, m1, m2, m3, m4, m5, m6, m7, m8⟩ := m
  obtain ⟨tx, ty, tz⟩ := t
  obtain ⟨qw, qx, qy, qz⟩ := q
  unfold M9.v at HR
  unfold poseV
  dsimp only at *
  go_enter Tryz.func19, Tryz.ntmps19
  go_upto_region 2 with fail
  obtain ⟨V, hV⟩ : ∃ V : World, V = (w0.alloc (.cells #[.int .i64 tx, .int .i64 ty, .int .i64 tz, .int .i64 qw, .int .i64 qx, .int .i64 qy, .int .i64 qz] 30)).alloc (.cells #[.bool false, .int .i64 0, .int .i64 0, .int .i64 0, .int .i64 0, .int .i64 0, .int .i64 0, .int .i64 0, .int .i64 0, .int .i64 0, .int .i64 tx, .int .i64 ty, .int .i64 tz] 66) := ⟨_, rfl⟩
  obtain ⟨pb, hpb⟩ : ∃ b, b = w0.heap.size := ⟨_, rfl⟩
  obtain ⟨fb, hfb'⟩ : ∃ b, b = w0.heap.size + 1 := ⟨_, rfl⟩
  have hBV : Hid (Below w0.heap.size w0 V) := by show Below _ _ _; rw [hV]; exact b_step (n_after _ _) (n_after _ _)
  have B1 : Cells V pb [.int .i64 tx, .int .i64 ty, .int .i64 tz, .int .i64 qw, .int .i64 qx, .int .i64 qy, .int .i64 qz] := by rw [hV, hpb]; exact (Cells.new w0 _ _).step (n_after _ _)
  have B2 : Cells V fb (frL false ⟨0, 0, 0, 0, 0, 0, 0, 0, 0⟩ ⟨tx, ty, tz⟩) := by rw [hV, hfb']; have := Cells.new (w0.alloc (.cells #[.int .i64 tx, .int .i64 ty, .int .i64 tz, .int .i64 qw, .int .i64 qx, .int .i64 qy, .int .i64 qz] 30)) (frL false ⟨0, 0, 0, 0, 0, 0, 0, 0, 0⟩ ⟨tx, ty, tz⟩) 66; rwa [World.size_alloc] at this
  rw [← hV, ← hfb', ← hpb]
  have hfb : w0.heap.size ≤ fb := by omega
  have hpf : pb ≠ fb := by omega
  clear hV hpb hfb'
  have HR : Hid _ := HR.out fb
  refine RV.region_by (fun j v w => match j with | 0 => v = .pointer (some ⟨fb, 0, none⟩) | 1 => v = .pointer (some ⟨fb, 0, none⟩) | 2 => v = .pointer (some ⟨fb, 0, none⟩) | 3 => v = .pointer (some ⟨fb, 0, none⟩) | 4 => v = .pointer (some ⟨pb, 3, none⟩) | 5 => v = .agg #[.int .i64 qw, .int .i64 qx, .int .i64 qy, .int .i64 qz] | 6 => v = .agg #[.int .i64 m0, .int .i64 m1, .int .i64 m2, .int .i64 m3, .int .i64 m4, .int .i64 m5, .int .i64 m6, .int .i64 m7, .int .i64 m8] | 7 => v = .pointer (some ⟨fb, 0, none⟩) | 8 => v = .pointer (some ⟨fb, 1, none⟩) | 9 => True | _ => True) (fun γ L w => Below w0.heap.size w0 w ∧ Cells w pb [.int .i64 tx, .int .i64 ty, .int .i64 tz, .int .i64 qw, .int .i64 qx, .int .i64 qy, .int .i64 qz] ∧ Cells w fb (frL (L 6 && bd) (cond (L 9) ⟨m0, m1, m2, m3, m4, m5, m6, m7, m8⟩ ⟨0, 0, 0, 0, 0, 0, 0, 0, 0⟩) ⟨tx, ty, tz⟩)) (by kernel_rfl) (by kernel_rfl) (by kernel_rfl) (by kernel_rfl) ?_ ?_ ?_
  · have b9 : Below V.heap.size V V.drew := (Below.refl _ _).drew; simp only [Bool.false_and, cond]; exact ⟨b_step hBV.out b9, B1.step b9, B2.step b9⟩
  · generalize hD : dstOf _ = D
    generalize hWA : waitsFor _ = WA
    generalize hZ : Act.mk _ _ = Z
    obtain ⟨R, hR⟩ : ∃ R : Nat → Value → World → Prop, R = (fun j v w => match j with | 0 => v = .pointer (some ⟨fb, 0, none⟩) | 1 => v = .pointer (some ⟨fb, 0, none⟩) | 2 => v = .pointer (some ⟨fb, 0, none⟩) | 3 => v = .pointer (some ⟨fb, 0, none⟩) | 4 => v = .pointer (some ⟨pb, 3, none⟩) | 5 => v = .agg #[.int .i64 qw, .int .i64 qx, .int .i64 qy, .int .i64 qz] | 6 => v = .agg #[.int .i64 m0, .int .i64 m1, .int .i64 m2, .int .i64 m3, .int .i64 m4, .int .i64 m5, .int .i64 m6, .int .i64 m7, .int .i64 m8] | 7 => v = .pointer (some ⟨fb, 0, none⟩) | 8 => v = .pointer (some ⟨fb, 1, none⟩) | 9 => True | _ => True) := ⟨_, rfl⟩
    rw [← hR]
    have d0 : D 0 = some 8 := by rw [← hD]; rfl
    have d1 : D 1 = some 9 := by rw [← hD]; rfl
    have d2 : D 2 = some 10 := by rw [← hD]; rfl
    have d3 : D 3 = some 11 := by rw [← hD]; rfl
    have d4 : D 4 = some 12 := by rw [← hD]; rfl
    have d5 : D 5 = some 13 := by rw [← hD]; rfl
    have d6 : D 6 = some 14 := by rw [← hD]; rfl
    have d7 : D 7 = some 15 := by rw [← hD]; rfl
    have d8 : D 8 = some 16 := by rw [← hD]; rfl
    have r0 : ∀ v w, R 0 v w = (v = .pointer (some ⟨fb, 0, none⟩)) := fun v w => by rw [hR]; rfl
    have r1 : ∀ v w, R 1 v w = (v = .pointer (some ⟨fb, 0, none⟩)) := fun v w => by rw [hR]; rfl
    have r2 : ∀ v w, R 2 v w = (v = .pointer (some ⟨fb, 0, none⟩)) := fun v w => by rw [hR]; rfl
    have r3 : ∀ v w, R 3 v w = (v = .pointer (some ⟨fb, 0, none⟩)) := fun v w => by rw [hR]; rfl
    have r4 : ∀ v w, R 4 v w = (v = .pointer (some ⟨pb, 3, none⟩)) := fun v w => by rw [hR]; rfl
    have r5 : ∀ v w, R 5 v w = (v = .agg #[.int .i64 qw, .int .i64 qx, .int .i64 qy, .int .i64 qz]) := fun v w => by rw [hR]; rfl
    have r6 : ∀ v w, R 6 v w = (v = .agg #[.int .i64 m0, .int .i64 m1, .int .i64 m2, .int .i64 m3, .int .i64 m4, .int .i64 m5, .int .i64 m6, .int .i64 m7, .int .i64 m8]) := fun v w => by rw [hR]; rfl
    have r7 : ∀ v w, R 7 v w = (v = .pointer (some ⟨fb, 0, none⟩)) := fun v w => by rw [hR]; rfl
    have r8 : ∀ v w, R 8 v w = (v = .pointer (some ⟨fb, 1, none⟩)) := fun v w => by rw [hR]; rfl
    have r9 : ∀ v w, R 9 v w = (True) := fun v w => by rw [hR]; rfl
    have E1 : ∀ (γ : Nat → Value) (L : Nat → Bool) (a : Act) (w : World), RV.Held D WA R (fun γ L w => Below w0.heap.size w0 w ∧ Cells w pb [.int .i64 tx, .int .i64 ty, .int .i64 tz, .int .i64 qw, .int .i64 qx, .int .i64 qy, .int .i64 qz] ∧ Cells w fb (frL (L 6 && bd) (cond (L 9) ⟨m0, m1, m2, m3, m4, m5, m6, m7, m8⟩ ⟨0, 0, 0, 0, 0, 0, 0, 0, 0⟩) ⟨tx, ty, tz⟩)) Z γ L a w → a.tmps[1]? = some (.pointer (some ⟨pb, 0, none⟩)) := fun γ L a w hH => (hH.rest 1 (by rw [← hD]; exact RV.dst_free (by kernel_rfl))).trans (by rw [← hZ]; rfl)
    have E3 : ∀ (γ : Nat → Value) (L : Nat → Bool) (a : Act) (w : World), RV.Held D WA R (fun γ L w => Below w0.heap.size w0 w ∧ Cells w pb [.int .i64 tx, .int .i64 ty, .int .i64 tz, .int .i64 qw, .int .i64 qx, .int .i64 qy, .int .i64 qz] ∧ Cells w fb (frL (L 6 && bd) (cond (L 9) ⟨m0, m1, m2, m3, m4, m5, m6, m7, m8⟩ ⟨0, 0, 0, 0, 0, 0, 0, 0, 0⟩) ⟨tx, ty, tz⟩)) Z γ L a w → a.tmps[3]? = some (.pointer (some ⟨fb, 0, none⟩)) := fun γ L a w hH => (hH.rest 3 (by rw [← hD]; exact RV.dst_free (by kernel_rfl))).trans (by rw [← hZ]; rfl)
    have K : ∀ j v w w', R j v w → R j v w' := by rw [hR]; intro j v w w' h; exact h
    clear hD hWA hZ hR
    refine RV.AllDo.cons 0 (RV.does_pure (fun γ v L w hl h => by rw [RV.more_ne (L := L) (i := 0) (j := 6) (by decide), RV.more_ne (L := L) (i := 0) (j := 9) (by decide)]; exact h) (fun γ L a w hH hl hA => by have e0 := E3 γ L a w hH; exact ⟨.pointer (some ⟨fb, 0, none⟩), by simp [execOp, go_sem, e0], (r0 _ _).mpr rfl⟩)) ?_
    refine RV.AllDo.cons 1 (RV.does_pure (fun γ v L w hl h => by rw [RV.more_ne (L := L) (i := 1) (j := 6) (by decide), RV.more_ne (L := L) (i := 1) (j := 9) (by decide)]; exact h) (fun γ L a w hH hl hA => by have e0 := E3 γ L a w hH; exact ⟨.pointer (some ⟨fb, 0, none⟩), by simp [execOp, go_sem, e0], (r1 _ _).mpr rfl⟩)) ?_
    refine RV.AllDo.cons 2 (RV.does_pure (fun γ v L w hl h => by rw [RV.more_ne (L := L) (i := 2) (j := 6) (by decide), RV.more_ne (L := L) (i := 2) (j := 9) (by decide)]; exact h) (fun γ L a w hH hl hA => by have l0 : L 1 = true := hA ⟨1, .data⟩ (by simp) rfl; have e0 := hH.slot 1 9 d1 l0; have g0 := hH.holds 1 l0; rw [r1] at g0; rw [g0] at e0; exact ⟨.pointer (some ⟨fb, 0, none⟩), by simp [execOp, go_sem, e0], (r2 _ _).mpr rfl⟩)) ?_
    refine RV.AllDo.cons 3 (RV.does_pure (fun γ v L w hl h => by rw [RV.more_ne (L := L) (i := 3) (j := 6) (by decide), RV.more_ne (L := L) (i := 3) (j := 9) (by decide)]; exact h) (fun γ L a w hH hl hA => by have l0 : L 2 = true := hA ⟨2, .data⟩ (by simp) rfl; have e0 := hH.slot 2 10 d2 l0; have g0 := hH.holds 2 l0; rw [r2] at g0; rw [g0] at e0; exact ⟨.pointer (some ⟨fb, 0, none⟩), by simp [execOp, go_sem, e0], (r3 _ _).mpr rfl⟩)) ?_
    refine RV.AllDo.cons 4 (RV.does_pure (fun γ v L w hl h => by rw [RV.more_ne (L := L) (i := 4) (j := 6) (by decide), RV.more_ne (L := L) (i := 4) (j := 9) (by decide)]; exact h) (fun γ L a w hH hl hA => by have e0 := E1 γ L a w hH; exact ⟨.pointer (some ⟨pb, 3, none⟩), by simp [execOp, go_sem, e0], (r4 _ _).mpr rfl⟩)) ?_
    refine RV.AllDo.cons 5 (RV.does_pure (fun γ v L w hl h => by rw [RV.more_ne (L := L) (i := 5) (j := 6) (by decide), RV.more_ne (L := L) (i := 5) (j := 9) (by decide)]; exact h) (fun γ L a w hH hl hA => by have l0 : L 4 = true := hA ⟨4, .data⟩ (by simp) rfl; have e0 := hH.slot 4 12 d4 l0; have g0 := hH.holds 4 l0; rw [r4] at g0; rw [g0] at e0; have wz0 := (hH.glob.2.1 3 _ rfl).1; have wz1 := (hH.glob.2.1 4 _ rfl).1; have wz2 := (hH.glob.2.1 5 _ rfl).1; have wz3 := (hH.glob.2.1 6 _ rfl).1; exact ⟨.agg #[.int .i64 qw, .int .i64 qx, .int .i64 qy, .int .i64 qz], by simp [execOp, go_sem, e0, wz0, wz1, wz2, wz3], (r5 _ _).mpr rfl⟩)) ?_
    refine RV.AllDo.cons 6 (RV.does_call (fun γ L a w hH hl hA => by have l0 : L 3 = true := hA ⟨3, .data⟩ (by simp) rfl; have e0 := hH.slot 3 11 d3 l0; have g0 := hH.holds 3 l0; rw [r3] at g0; rw [g0] at e0; have l1 : L 5 = true := hA ⟨5, .data⟩ (by simp) rfl; have e1 := hH.slot 5 13 d5 l1; have g1 := hH.holds 5 l1; rw [r5] at g1; rw [g1] at e1; have hG := hH.glob; rw [hl] at hG; have wz := hG.2.2 0 _ rfl; refine ⟨52, #[.pointer (some ⟨fb, 0, none⟩), .agg #[.int .i64 qw, .int .i64 qx, .int .i64 qy, .int .i64 qz]], by simp [go_sem, e0, e1], Calls.mono (HR.out w _ wz.1 wz.2) ?_⟩; rintro e w2 ⟨rfl, A⟩; refine ⟨_, rfl, (r6 _ _).mpr rfl, fun j v _ h => K j v _ _ h, ?_⟩; rw [RV.more_self, RV.more_ne (L := L) (i := 6) (j := 9) (by decide)]; have A9 := A.out; exact ⟨A9.on hG.1 hfb, hG.2.1.beside A9 hpf, by have q9 := Cells.after hG.2.2 A9; exact q9⟩)) ?_
    refine RV.AllDo.cons 7 (RV.does_pure (fun γ v L w hl h => by rw [RV.more_ne (L := L) (i := 7) (j := 6) (by decide), RV.more_ne (L := L) (i := 7) (j := 9) (by decide)]; exact h) (fun γ L a w hH hl hA => by have l0 : L 0 = true := hA ⟨0, .data⟩ (by simp) rfl; have e0 := hH.slot 0 8 d0 l0; have g0 := hH.holds 0 l0; rw [r0] at g0; rw [g0] at e0; exact ⟨.pointer (some ⟨fb, 0, none⟩), by simp [execOp, go_sem, e0], (r7 _ _).mpr rfl⟩)) ?_
    refine RV.AllDo.cons 8 (RV.does_pure (fun γ v L w hl h => by rw [RV.more_ne (L := L) (i := 8) (j := 6) (by decide), RV.more_ne (L := L) (i := 8) (j := 9) (by decide)]; exact h) (fun γ L a w hH hl hA => by have l0 : L 7 = true := hA ⟨7, .data⟩ (by simp) rfl; have e0 := hH.slot 7 15 d7 l0; have g0 := hH.holds 7 l0; rw [r7] at g0; rw [g0] at e0; exact ⟨.pointer (some ⟨fb, 1, none⟩), by simp [execOp, go_sem, e0], (r8 _ _).mpr rfl⟩)) ?_
    refine RV.AllDo.cons 9 (RV.does_store (fun γ L a w hH hl hA => by have l0 : L 6 = true := hA ⟨6, .data⟩ (by simp) rfl; have e0 := hH.slot 6 14 d6 l0; have g0 := hH.holds 6 l0; rw [r6] at g0; rw [g0] at e0; have l1 : L 8 = true := hA ⟨8, .data⟩ (by simp) rfl; have e1 := hH.slot 8 16 d8 l1; have g1 := hH.holds 8 l1; rw [r8] at g1; rw [g1] at e1; have hG := hH.glob; have wz0 := hG.2.2 1 _ rfl; have wz1 := hG.2.2 2 _ rfl; have wz2 := hG.2.2 3 _ rfl; have wz3 := hG.2.2 4 _ rfl; have wz4 := hG.2.2 5 _ rfl; have wz5 := hG.2.2 6 _ rfl; have wz6 := hG.2.2 7 _ rfl; have wz7 := hG.2.2 8 _ rfl; have wz8 := hG.2.2 9 _ rfl; refine ⟨(((((((((w.setCell ⟨fb, 1, none⟩ (.int .i64 m0)).setCell ⟨fb, 2, none⟩ (.int .i64 m1)).setCell ⟨fb, 3, none⟩ (.int .i64 m2)).setCell ⟨fb, 4, none⟩ (.int .i64 m3)).setCell ⟨fb, 5, none⟩ (.int .i64 m4)).setCell ⟨fb, 6, none⟩ (.int .i64 m5)).setCell ⟨fb, 7, none⟩ (.int .i64 m6)).setCell ⟨fb, 8, none⟩ (.int .i64 m7)).setCell ⟨fb, 9, none⟩ (.int .i64 m8)), by simp [execOp, go_sem, e0, e1, wz0.1, wz0.2, wz1.1, wz1.2, wz2.1, wz2.2, wz3.1, wz3.2, wz4.1, wz4.2, wz5.1, wz5.2, wz6.1, wz6.2, wz7.1, wz7.2, wz8.1, wz8.2], (r9 _ _).mpr trivial, fun j v _ h => K j v _ _ h, ?_⟩; rw [RV.more_self, RV.more_ne (L := L) (i := 9) (j := 6) (by decide)]; exact ⟨(((((((((hG.1.setCell hfb _).setCell hfb _).setCell hfb _).setCell hfb _).setCell hfb _).setCell hfb _).setCell hfb _).setCell hfb _).setCell hfb _), (Cells.apart (Cells.apart (Cells.apart (Cells.apart (Cells.apart (Cells.apart (Cells.apart (Cells.apart (Cells.apart hG.2.1 hpf 1 (.int .i64 m0)) hpf 2 (.int .i64 m1)) hpf 3 (.int .i64 m2)) hpf 4 (.int .i64 m3)) hpf 5 (.int .i64 m4)) hpf 6 (.int .i64 m5)) hpf 7 (.int .i64 m6)) hpf 8 (.int .i64 m7)) hpf 9 (.int .i64 m8)), (Cells.set (Cells.set (Cells.set (Cells.set (Cells.set (Cells.set (Cells.set (Cells.set (Cells.set hG.2.2 1 (.int .i64 m0) (by simp [frL])) 2 (.int .i64 m1) (by simp [frL])) 3 (.int .i64 m2) (by simp [frL])) 4 (.int .i64 m3) (by simp [frL])) 5 (.int .i64 m4) (by simp [frL])) 6 (.int .i64 m5) (by simp [frL])) 7 (.int .i64 m6) (by simp [frL])) 8 (.int .i64 m7) (by simp [frL])) 9 (.int .i64 m8) (by simp [frL]))⟩)) ?_
    exact RV.AllDo.nil
  · intro γ a5 w5 L9 hL hLo hH
    have ha := RV.held_act hH hL (by kernel_rfl) (by kernel_rfl)
    have hG := hH.glob
    rw [hL 6 (by decide), hL 9 (by decide)] at hG
    rw [ha]
    clear ha hH hL hLo
    simp only [RV.putAll, Act.put, List.setIfInBounds_toArray, List.set_cons_zero, List.set_cons_succ, Nat.zero_add, Nat.reduceAdd]
    go_wp2
    go_ret
    exact ⟨fb, rfl, hfb, hG.2.2, hG.1⟩
end Go.Proofs.YtompnibhfdkkjaaGreat
