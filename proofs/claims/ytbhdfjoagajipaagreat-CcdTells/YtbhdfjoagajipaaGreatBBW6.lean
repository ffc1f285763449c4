/- The document's own May of layer 9. -/
import Derived.Test.YtbhdfjoagajipaaGreatBBW5
import Derived.Test.YtbhdfjoagajipaaGreatBBW0
import Derived.Test.YtbhdfjoagajipaaGreatBBW1
import Derived.OneCell
import Derived.WalkMore
import Derived.Lib.BufferMore
import Derived.BigQuiet
import Derived.Laws.OwnMore
import Derived.Maps.AppendAt
import Derived.Test.YtbhdfjoagajipaaGreatProg
import Derived.WalkKit
import Derived.Laws.MathBits
import Derived.Laws.Externs
import Derived.Handy
namespace Go.Proofs.YtbhdfjoagajipaaGreat
open Go.RowKit Go.Shelf
set_option linter.unusedVariables false

theorem may_no {c : Cr} (h : c.P.length < 1 ∨ 32 < c.P.length ∨ 128 < c.A.length ∨ 128 < c.E.length ∨ c.r < 0 ∨ 65536 < c.r) : mayC c = false := by
  cases hm : mayC c with
  | false => rfl
  | true =>
    unfold mayC at hm
    simp only [Bool.and_eq_true, decide_eq_true_eq] at hm
    omega
theorem may_yes {c : Cr} (h1 : 1 ≤ c.P.length ∧ c.P.length ≤ 32) (h2 : c.A.length ≤ 128) (h3 : c.E.length ≤ 128) (h4 : 0 ≤ c.r ∧ c.r ≤ 65536) : mayC c = (c.P.all (·.inB 16777216) && (c.A.all (·.inB 1048576) && c.E.all (·.inB 1048576))) := by
  unfold mayC
  rw [decide_eq_true h1, decide_eq_true h2, decide_eq_true h3, decide_eq_true h4]
  generalize c.P.all (·.inB 16777216) = a
  generalize c.A.all (·.inB 1048576) = b
  generalize c.E.all (·.inB 1048576) = d
  cases a <;> cases b <;> cases d <;> rfl

set_option maxHeartbeats 4000000 in
set_option maxRecDepth 100000 in
theorem rmay9_any (c : Cr) (pv av ev : Value) (w0 : World) (hp : Lies w0 pv c.P) (ha : Lies w0 av c.A) (he : Lies w0 ev c.E) :
    Calls Tryz.prog 72 #[coreA pv av ev c.r] w0 fun e W => e = .returned (.bool (mayC c)) ∧ Below w0.heap.size w0 W := by
  have HN : Hid _ := fun h => may_no (c := c) h
  have HY : Hid _ := fun h1 h2 h3 h4 => may_yes (c := c) h1 h2 h3 h4
  obtain ⟨R9, hR9⟩ : ∃ R, mayC c = R := ⟨_, rfl⟩
  rw [hR9] at HN HY ⊢
  clear hR9
  obtain ⟨P, A, E, r⟩ := c
  dsimp only at *
  obtain ⟨o, cap, rfl, hlc, hcm, _⟩ := hp.form
  obtain ⟨o2, cap2, rfl, _, _, _⟩ := ha.form
  obtain ⟨o3, cap3, rfl, _, _, _⟩ := he.form
  have H2 : Hid _ := fun (w' : World) (h : Below w0.heap.size w0 w') => rall9_any P 16777216 _ w' (hp.below h) (by decide) (by decide)
  have H3 : Hid _ := fun (w' : World) (h : Below w0.heap.size w0 w') => rall9_any A 1048576 _ w' (ha.below h) (by decide) (by decide)
  have H4 : Hid _ := fun (w' : World) (h : Below w0.heap.size w0 w') => rall9_any E 1048576 _ w' (he.below h) (by decide) (by decide)
  clear hp ha he hlc hcm
  generalize P.all (·.inB 16777216) = k2 at *
  generalize A.all (·.inB 1048576) = k3 at *
  generalize E.all (·.inB 1048576) = k4 at *
  unfold coreA at *
  go_enter Tryz.func72, Tryz.ntmps72
  obtain ⟨V, hV⟩ : ∃ V, V = w0.alloc (.cells #[.slice o P.length cap, .slice o2 A.length cap2, .slice o3 E.length cap3, .int .i64 r] 35) := ⟨_, rfl⟩
  obtain ⟨cb, hcb⟩ : ∃ b, b = w0.heap.size := ⟨_, rfl⟩
  have HB : Hid (Below w0.heap.size w0 V) := by show Below _ _ _; rw [hV]; exact n_after _ _
  have HC : Hid _ := Cells4.new w0 (.slice o P.length cap) (.slice o2 A.length cap2) (.slice o3 E.length cap3) r 35
  rw [← hV, ← hcb] at HC
  go_upto_region 1 with fail
  rw [← hV, ← hcb]
  clear hV hcb
  obtain ⟨q0, q1, q2, q3⟩ := HC.out
  by_cases c0 : (P.length : Int) < 1
  · have e9 : R9 = false := HN.out (by omega)
    subst e9
    go_wp2_with (fail)
    go_ret
    exact ⟨rfl, HB.out⟩
  · skip
    by_cases c1 : (32 : Int) < P.length
    · have e9 : R9 = false := HN.out (by omega)
      subst e9
      go_wp2_with (fail)
      go_ret
      exact ⟨rfl, HB.out⟩
    · skip
      by_cases c2 : (128 : Int) < A.length
      · have e9 : R9 = false := HN.out (by omega)
        subst e9
        go_wp2_with (fail)
        go_ret
        exact ⟨rfl, HB.out⟩
      · skip
        by_cases c3 : (128 : Int) < E.length
        · have e9 : R9 = false := HN.out (by omega)
          subst e9
          go_wp2_with (fail)
          go_ret
          exact ⟨rfl, HB.out⟩
        · skip
          by_cases c4 : r < 0
          · have e9 : R9 = false := HN.out (by omega)
            subst e9
            go_wp2_with (fail)
            go_ret
            exact ⟨rfl, HB.out⟩
          · skip
            by_cases c5 : 65536 < r
            · have e9 : R9 = false := HN.out (by omega)
              subst e9
              go_wp2_with (fail)
              go_ret
              exact ⟨rfl, HB.out⟩
            · have e9 : Hid _ := HY.out (by omega) (by omega) (by omega) (by omega)
              clear HN HY
              go_wp2_with (fail)
              refine Calls.mono (H2.out _ HB.out) ?_
              rintro e V2 ⟨rfl, hb⟩
              have q1 := c_after hb q1
              have q2 := c_after hb q2
              have HB : Hid _ := b_step HB.out hb
              clear hb q0 q3
              go_wp2_with (fail)
              refine Calls.mono (H3.out _ HB.out) ?_
              rintro e V3 ⟨rfl, hb⟩
              have q2 := c_after hb q2
              have HB : Hid _ := b_step HB.out hb
              clear hb q1
              go_wp2_with (fail)
              refine Calls.mono (H4.out _ HB.out) ?_
              rintro e V4 ⟨rfl, hb⟩
              have HB : Hid _ := b_step HB.out hb
              clear hb q2
              cases k2 with
              | false =>
                go_wp2_with (fail)
                go_ret
                exact ⟨by rw [e9.out]; rfl, HB.out⟩
              | true =>
                cases k3 with
                | false =>
                  go_wp2_with (fail)
                  go_ret
                  exact ⟨by rw [e9.out]; rfl, HB.out⟩
                | true =>
                  go_wp2_with (fail)
                  go_ret
                  exact ⟨by rw [e9.out]; rfl, HB.out⟩
end Go.Proofs.YtbhdfjoagajipaaGreat
namespace Go.Proofs.YtbhdfjoagajipaaGreat
open Go.RowKit Go.Shelf
set_option linter.unusedVariables false

/-- Two lists of the call's own, and boxes that are none of theirs. -/
structure Two (w0 W : World) (va ve : Value) (A E : List Pt) (bs : List (Nat × Pt)) : Prop where
  ra : W.ownsRow w0.heap.size 23 3 va A.length (fl3 A)
  re : W.ownsRow w0.heap.size 23 3 ve E.length (fl3 E)
  apart : ∀ k, ve.ownBlock = some k → va.ownBlock ≠ some k
  below : Below w0.heap.size w0 W
  box : ∀ x ∈ bs, Box3 W x.1 x.2 ∧ va.ownBlock ≠ some x.1 ∧ ve.ownBlock ≠ some x.1 ∧ w0.heap.size ≤ x.1
end Go.Proofs.YtbhdfjoagajipaaGreat
namespace Go.Proofs.YtbhdfjoagajipaaGreat
open Go.RowKit Go.Shelf
set_option linter.unusedVariables false

def mayP (L : List Pt) : Bool := decide (4 ≤ L.length ∧ L.length ≤ 12) && (L.all (fun p => p.inB 65536) && decide L.Nodup)
def halfOk (n : Int) : Bool := decide (1 ≤ n ∧ n ≤ 65536)
end Go.Proofs.YtbhdfjoagajipaaGreat
namespace Go.Proofs.YtbhdfjoagajipaaGreat
open Go.RowKit Go.Shelf
set_option linter.unusedVariables false

/-- A shape's numbers. -/
structure Sh where
  kind : Int
  radius : Int
  half : Pt
  pts : List Pt
def Sh.v (s : Sh) (pv : Value) : Value := .agg #[.int .i64 s.kind, .int .i64 s.radius, .int .i64 s.half.x, .int .i64 s.half.y, .int .i64 s.half.z, pv]
def inR (n a b : Int) : Bool := decide (a ≤ n ∧ n ≤ b)
def formP (s : Sh) : Bool :=
  if s.kind = 1 then inR s.radius 1 16384
  else if s.kind = 2 then inR s.radius 1 16384 && halfOk s.half.x
  else if s.kind = 3 then inR s.radius 0 16384 && (halfOk s.half.x && (halfOk s.half.y && halfOk s.half.z))
  else if s.kind = 4 then inR s.radius 0 16384 && mayP s.pts
  else false
def checkP (s : Sh) : Int := if formP s then (if s.kind = 4 ∧ flatP s.pts = true then 51 else 0) else 50
end Go.Proofs.YtbhdfjoagajipaaGreat
namespace Go.Proofs.YtbhdfjoagajipaaGreat
open Go.RowKit Go.Shelf
set_option linter.unusedVariables false

def sg (i : Nat) (x : Int) : Int := if i = 0 then -x else x
end Go.Proofs.YtbhdfjoagajipaaGreat
namespace Go.Proofs.YtbhdfjoagajipaaGreat
open Go.RowKit Go.Shelf
set_option linter.unusedVariables false

theorem own_le {w : World} {base base' : Nat} {t : TypeId} {sz n : Nat} {u : Value} {xs : List Value} (h : w.ownsRow base t sz u n xs) (hb : base' ≤ base) : w.ownsRow base' t sz u n xs := Go.Joins.ownsRow_le h hb
/-- Three lists of the call's own. -/
structure Three (w0 W : World) (vp va ve : Value) (P A E : List Pt) : Prop where
  rp : W.ownsRow w0.heap.size 23 3 vp P.length (fl3 P)
  ra : W.ownsRow w0.heap.size 23 3 va A.length (fl3 A)
  re : W.ownsRow w0.heap.size 23 3 ve E.length (fl3 E)
  pa : ∀ k, vp.ownBlock = some k → va.ownBlock ≠ some k
  pe : ∀ k, vp.ownBlock = some k → ve.ownBlock ≠ some k
  ae : ∀ k, va.ownBlock = some k → ve.ownBlock ≠ some k
  below : Below w0.heap.size w0 W
def set4 (W : World) (b : Nat) (v0 v1 v2 v3 : Value) : World := (((W.setCell ⟨b, 0, none⟩ v0).setCell ⟨b, 1, none⟩ v1).setCell ⟨b, 2, none⟩ v2).setCell ⟨b, 3, none⟩ v3
theorem own_set4 {W : World} {base : Nat} {t : TypeId} {sz n : Nat} {u : Value} {xs : List Value} {b : Nat} (h : W.ownsRow base t sz u n xs) (hne : u.ownBlock ≠ some b) (v0 v1 v2 v3 : Value) : (set4 W b v0 v1 v2 v3).ownsRow base t sz u n xs :=
  ownsRow_setCell_other (ownsRow_setCell_other (ownsRow_setCell_other (ownsRow_setCell_other h hne _) hne _) hne _) hne _
theorem set4_below {n : Nat} {w W : World} {b : Nat} (h : Below n w W) (hb : n ≤ b) (v0 v1 v2 v3 : Value) : Below n w (set4 W b v0 v1 v2 v3) := (((h.setCell hb _).setCell hb _).setCell hb _).setCell hb _
/-- Cells of a block. -/
def Cells (W : World) (b : Nat) (vs : List Value) : Prop := ∀ i v, vs[i]? = some v → W.cell? ⟨b, i, none⟩ = some v ∧ W.frozen? ⟨b, i, none⟩ = false
theorem Cells.step {A B : World} {b : Nat} {vs : List Value} (h : Cells A b vs) (hb : Below A.heap.size A B) : Cells B b vs := fun i v e => ⟨c_after hb (h i v e).1, f_after hb (h i v e).1 (h i v e).2⟩
theorem Cells.new (w : World) (vs : List Value) (t : TypeId) : Cells (w.alloc (.cells vs.toArray t)) w.heap.size vs := fun i v e => ⟨by simp [e], by simp [go_sem]⟩
theorem Cells.set {W : World} {b : Nat} {vs : List Value} (h : Cells W b vs) (k : Nat) (u : Value) (hk : k < vs.length) : Cells (W.setCell ⟨b, k, none⟩ u) b (vs.set k u) := by
  intro i v e
  by_cases hik : i = k
  · subst hik
    rw [List.getElem?_set_self hk] at e
    cases e
    obtain ⟨h1, h2⟩ := h i _ (List.getElem?_eq_getElem hk)
    exact ⟨by simp [go_sem, h1], by simp [go_sem, h2]⟩
  · rw [List.getElem?_set_ne (Ne.symm hik)] at e
    obtain ⟨h1, h2⟩ := h i v e
    exact ⟨by simp [go_sem, h1], by simp [go_sem, h2]⟩
end Go.Proofs.YtbhdfjoagajipaaGreat
namespace Go.Proofs.YtbhdfjoagajipaaGreat
open Go.RowKit Go.Shelf
set_option linter.unusedVariables false

theorem rin_any (n a b : Int) (w : World) :
    Calls Tryz.prog 118 #[.int .i64 n, .int .i64 a, .int .i64 b] w fun e w' => e = .returned (.bool (inR n a b)) ∧ w' = w := by
  unfold inR
  by_cases h1 : a ≤ n
  · go_enter Tryz.func118, Tryz.ntmps118
    go_wp2
    go_ret
    exact ⟨by simp [h1], rfl⟩
  · go_enter Tryz.func118, Tryz.ntmps118
    go_wp2
    go_ret
    exact ⟨by simp; omega, rfl⟩
theorem rin_is (n a b : Int) (w : World) (t : Bool) (h : inR n a b = t) :
    Calls Tryz.prog 118 #[.int .i64 n, .int .i64 a, .int .i64 b] w fun e w' => e = .returned (.bool t) ∧ w' = w := by subst h; exact rin_any n a b w
theorem rsize_any (n : Int) (w : World) (h : -1152921504606846976 ≤ n ∧ n ≤ 1152921504606846976) :
    Calls Tryz.prog 120 #[.int .i64 n] w fun e w' => e = .returned (.int .i64 (n.natAbs : Nat)) ∧ w' = w := by
  by_cases h1 : n < 0
  · go_enter Tryz.func120, Tryz.ntmps120
    go_wp2
    go_ret
    exact ⟨congrArg (fun k => Ending.returned (.int .i64 k)) (by omega), rfl⟩
  · go_enter Tryz.func120, Tryz.ntmps120
    go_wp2
    go_ret
    exact ⟨congrArg (fun k => Ending.returned (.int .i64 k)) (by omega), rfl⟩
/-- The greatest number that divides the first i. -/
def gFirst (x y z : Nat) : Nat → Nat
  | 0 => 0
  | 1 => x
  | 2 => Nat.gcd x y
  | _ => Nat.gcd (Nat.gcd x y) z
def nth3 (x y z : Nat) : Nat → Nat
  | 0 => x
  | 1 => y
  | _ => z
theorem gFirst_next (x y z i : Nat) (hi : i < 3) : Nat.gcd (gFirst x y z i) (nth3 x y z i) = gFirst x y z (i + 1) := by
  have : i = 0 ∨ i = 1 ∨ i = 2 := by omega
  rcases this with rfl | rfl | rfl
  · exact Nat.gcd_zero_left x
  · rfl
  · rfl
theorem gFirst_le (x y z B i : Nat) (hx : x ≤ B) (hy : y ≤ B) (hz : z ≤ B) : gFirst x y z i ≤ B := by
  match i with
  | 0 => exact Nat.zero_le _
  | 1 => exact hx
  | 2 => exact gcd_le hx hy
  | _ + 3 => exact gcd_le (gcd_le hx hy) hz
theorem nth3_le (x y z B i : Nat) (hx : x ≤ B) (hy : y ≤ B) (hz : z ≤ B) : nth3 x y z i ≤ B := by
  match i with
  | 0 => exact hx
  | 1 => exact hy
  | _ + 2 => exact hz
theorem nth3_cell {W : World} {g : Nat} {x y z : Nat} (h : Cells W g [.int .i64 (x : Int), .int .i64 (y : Int), .int .i64 (z : Int)]) (i : Nat) (hi : i < 3) : W.cell? ⟨g, i, none⟩ = some (.int .i64 (nth3 x y z i : Int)) := by
  have : i = 0 ∨ i = 1 ∨ i = 2 := by omega
  rcases this with rfl | rfl | rfl
  · exact (h 0 _ rfl).1
  · exact (h 1 _ rfl).1
  · exact (h 2 _ rfl).1
set_option maxHeartbeats 2000000 in
set_option maxRecDepth 100000 in
theorem bare_any (p : Pt) (w0 : World) (hp : p.inB 4398046511104 = true) :
    Calls Tryz.prog 119 #[p.v] w0 fun e W => e = .returned p.low.v ∧ Below w0.heap.size w0 W := by
  have hq := hp
  rw [Pt.inB_iff] at hq
  have S1 : Hid _ := fun w' => rsize_any p.x w' (by omega)
  have S2 : Hid _ := fun w' => rsize_any p.y w' (by omega)
  have S3 : Hid _ := fun w' => rsize_any p.z w' (by omega)
  have hg3 : Hid (gFirst p.x.natAbs p.y.natAbs p.z.natAbs 3 = p.g) := rfl
  have HLE : Hid (∀ i, gFirst p.x.natAbs p.y.natAbs p.z.natAbs i ≤ 4398046511104) := fun i => gFirst_le _ _ _ _ _ (by omega) (by omega) (by omega)
  have HLN : Hid (∀ i, nth3 p.x.natAbs p.y.natAbs p.z.natAbs i ≤ 4398046511104) := fun i => nth3_le _ _ _ _ _ (by omega) (by omega) (by omega)
  have HL : Hid (p.low = if p.g = 0 then p else p.by p.g) := rfl
  generalize p.low = r at *
  generalize p.g = G at *
  obtain ⟨x, y, z⟩ := p
  dsimp only at *
  generalize hnx : x.natAbs = nx at *
  generalize hny : y.natAbs = ny at *
  generalize hnz : z.natAbs = nz at *
  clear hp hnx hny hnz
  unfold Pt.v at *
  dsimp only at *
  go_enter Tryz.func119, Tryz.ntmps119
  go_upto_region 2 with fail
  obtain ⟨V, hV⟩ : ∃ V : World, V = ((w0.alloc (.cells #[.int .i64 x, .int .i64 y, .int .i64 z] 23)).alloc (.cells #[.int .i64 0, .int .i64 0, .int .i64 0] 23)) := ⟨_, rfl⟩
  have hBV : Below w0.heap.size w0 V := by rw [hV]; exact (((Below.refl _ w0).alloc (by simp; try omega) _).alloc (by simp; try omega) _)
  have V0_0 : V.cell? ⟨w0.heap.size, 0, none⟩ = some (.int .i64 x) := by rw [hV]; simp [go_sem]
  have V0_1 : V.cell? ⟨w0.heap.size, 1, none⟩ = some (.int .i64 y) := by rw [hV]; simp [go_sem]
  have V0_2 : V.cell? ⟨w0.heap.size, 2, none⟩ = some (.int .i64 z) := by rw [hV]; simp [go_sem]
  have V1_0 : V.cell? ⟨w0.heap.size + 1, 0, none⟩ = some (.int .i64 0) := by rw [hV]; simp [go_sem]
  have V1_1 : V.cell? ⟨w0.heap.size + 1, 1, none⟩ = some (.int .i64 0) := by rw [hV]; simp [go_sem]
  have V1_2 : V.cell? ⟨w0.heap.size + 1, 2, none⟩ = some (.int .i64 0) := by rw [hV]; simp [go_sem]
  have Vf1_0 : V.frozen? ⟨w0.heap.size + 1, 0, none⟩ = false := by rw [hV]; simp [go_sem]
  have Vf1_1 : V.frozen? ⟨w0.heap.size + 1, 1, none⟩ = false := by rw [hV]; simp [go_sem]
  have Vf1_2 : V.frozen? ⟨w0.heap.size + 1, 2, none⟩ = false := by rw [hV]; simp [go_sem]
  have Vf0_0 : V.frozen? ⟨w0.heap.size, 0, none⟩ = false := by rw [hV]; simp [go_sem]
  have Vf0_1 : V.frozen? ⟨w0.heap.size, 1, none⟩ = false := by rw [hV]; simp [go_sem]
  have Vf0_2 : V.frozen? ⟨w0.heap.size, 2, none⟩ = false := by rw [hV]; simp [go_sem]
  rw [← hV]
  clear hV
  refine RV.region_by (fun j v w => match j with | 0 => v = .pointer (some ⟨w0.heap.size, 0, none⟩) | 1 => v = .int .i64 x | 2 => v = .int .i64 (nx : Int) | 3 => v = .pointer (some ⟨w0.heap.size, 1, none⟩) | 4 => v = .int .i64 y | 5 => v = .int .i64 (ny : Int) | 6 => v = .pointer (some ⟨w0.heap.size, 2, none⟩) | 7 => v = .int .i64 z | 8 => v = .int .i64 (nz : Int) | 9 => (fun v w => ∃ g, v = .slice (some ⟨g, 0, none⟩) 3 3 ∧ V.heap.size ≤ g ∧ Cells w g [.int .i64 (nx : Int), .int .i64 (ny : Int), .int .i64 (nz : Int)]) v w | 10 => (fun v w => ∃ g, v = .slice (some ⟨g, 0, none⟩) 3 3 ∧ V.heap.size ≤ g ∧ Cells w g [.int .i64 (nx : Int), .int .i64 (ny : Int), .int .i64 (nz : Int)]) v w | _ => True) (fun γ L w9 => Below V.heap.size V w9) (by kernel_rfl) (by kernel_rfl) (by kernel_rfl) (by kernel_rfl) ?_ ?_ ?_
  · exact (Below.refl _ V).drew
  · generalize hD : dstOf _ = D
    generalize hWA : waitsFor _ = WA
    generalize hZ : Act.mk _ _ = Z
    obtain ⟨R, hR⟩ : ∃ R : Nat → Value → World → Prop, R = (fun j v w => match j with | 0 => v = .pointer (some ⟨w0.heap.size, 0, none⟩) | 1 => v = .int .i64 x | 2 => v = .int .i64 (nx : Int) | 3 => v = .pointer (some ⟨w0.heap.size, 1, none⟩) | 4 => v = .int .i64 y | 5 => v = .int .i64 (ny : Int) | 6 => v = .pointer (some ⟨w0.heap.size, 2, none⟩) | 7 => v = .int .i64 z | 8 => v = .int .i64 (nz : Int) | 9 => (fun v w => ∃ g, v = .slice (some ⟨g, 0, none⟩) 3 3 ∧ V.heap.size ≤ g ∧ Cells w g [.int .i64 (nx : Int), .int .i64 (ny : Int), .int .i64 (nz : Int)]) v w | 10 => (fun v w => ∃ g, v = .slice (some ⟨g, 0, none⟩) 3 3 ∧ V.heap.size ≤ g ∧ Cells w g [.int .i64 (nx : Int), .int .i64 (ny : Int), .int .i64 (nz : Int)]) v w | _ => True) := ⟨_, rfl⟩
    rw [← hR]
    have kn : RV.Kn R [.some (.pointer (some ⟨w0.heap.size, 0, none⟩)), .some (.int .i64 x), .some (.int .i64 (nx : Int)), .some (.pointer (some ⟨w0.heap.size, 1, none⟩)), .some (.int .i64 y), .some (.int .i64 (ny : Int)), .some (.pointer (some ⟨w0.heap.size, 2, none⟩)), .some (.int .i64 z), .some (.int .i64 (nz : Int)), none, none] 0 := by rw [hR]; exact ⟨fun _ _ => Iff.rfl, fun _ _ => Iff.rfl, fun _ _ => Iff.rfl, fun _ _ => Iff.rfl, fun _ _ => Iff.rfl, fun _ _ => Iff.rfl, fun _ _ => Iff.rfl, fun _ _ => Iff.rfl, fun _ _ => Iff.rfl, trivial⟩
    have T := RV.kfacts [10, 11, 12, 13, 14, 15, 16, 17, 18, 19, 5] [(1, .pointer (some ⟨w0.heap.size, 0, none⟩))] hD hZ kn ⟨rfl, trivial⟩ (by kernel_rfl) (by kernel_rfl)
    simp only [RV.Outs, RV.Slots, Nat.reduceAdd] at T
    have r9 : ∀ v w, R 9 v w = ((fun v w => ∃ g, v = .slice (some ⟨g, 0, none⟩) 3 3 ∧ V.heap.size ≤ g ∧ Cells w g [.int .i64 (nx : Int), .int .i64 (ny : Int), .int .i64 (nz : Int)]) v w) := fun v w => by rw [hR]; rfl
    have r10 : ∀ v w, R 10 v w = ((fun v w => ∃ g, v = .slice (some ⟨g, 0, none⟩) 3 3 ∧ V.heap.size ≤ g ∧ Cells w g [.int .i64 (nx : Int), .int .i64 (ny : Int), .int .i64 (nz : Int)]) v w) := fun v w => by rw [hR]; rfl
    have K : ∀ j v w w', Below w.heap.size w w' → R j v w → R j v w' := by
      rw [hR]
      intro j v w w' hb h
      revert h
      dsimp only
      split
      all_goals first | exact id | exact (fun ⟨g, t1, t2, t3⟩ => ⟨g, t1, t2, Cells.step t3 hb⟩)
    iterate 2 first
      | (refine RV.AllDo.cons _ (RV.pk kn T (fun γ v L w hl h => h) (fun γ L a w hH hl h9 k9 => ⟨_, ?_, rfl⟩)) ?_; · simp [execOp, go_sem, h9])
      | (refine RV.AllDo.cons _ (RV.pk kn T (fun γ v L w hl h => h) (fun γ L a w hH hl h9 k9 => ⟨_, ?_, rfl⟩)) ?_; · have hB9 := hH.glob; have q0 := c_after hB9 V0_0; simp [Region.binds] at k9; simp [execOp, go_sem, h9, k9, q0])
    refine RV.AllDo.cons _ (RV.does_call (fun γ L a w hH hl hA => by have h9 := T _ _ γ L a w hH; have k9 := hA; simp [Region.binds] at k9; have hB9 := hH.glob; exact ⟨120, #[.int .i64 x], by simp [go_sem, h9, k9], Calls.mono (S1.out w) (by rintro e w2 ⟨rfl, rfl⟩; exact ⟨_, rfl, ((kn.at (k := 2) rfl _ _).2 rfl), fun j v _ h => h, hB9⟩)⟩)) ?_
    iterate 2 first
      | (refine RV.AllDo.cons _ (RV.pk kn T (fun γ v L w hl h => h) (fun γ L a w hH hl h9 k9 => ⟨_, ?_, rfl⟩)) ?_; · simp [execOp, go_sem, h9])
      | (refine RV.AllDo.cons _ (RV.pk kn T (fun γ v L w hl h => h) (fun γ L a w hH hl h9 k9 => ⟨_, ?_, rfl⟩)) ?_; · have hB9 := hH.glob; have q0 := c_after hB9 V0_1; simp [Region.binds] at k9; simp [execOp, go_sem, h9, k9, q0])
    refine RV.AllDo.cons _ (RV.does_call (fun γ L a w hH hl hA => by have h9 := T _ _ γ L a w hH; have k9 := hA; simp [Region.binds] at k9; have hB9 := hH.glob; exact ⟨120, #[.int .i64 y], by simp [go_sem, h9, k9], Calls.mono (S2.out w) (by rintro e w2 ⟨rfl, rfl⟩; exact ⟨_, rfl, ((kn.at (k := 5) rfl _ _).2 rfl), fun j v _ h => h, hB9⟩)⟩)) ?_
    iterate 2 first
      | (refine RV.AllDo.cons _ (RV.pk kn T (fun γ v L w hl h => h) (fun γ L a w hH hl h9 k9 => ⟨_, ?_, rfl⟩)) ?_; · simp [execOp, go_sem, h9])
      | (refine RV.AllDo.cons _ (RV.pk kn T (fun γ v L w hl h => h) (fun γ L a w hH hl h9 k9 => ⟨_, ?_, rfl⟩)) ?_; · have hB9 := hH.glob; have q0 := c_after hB9 V0_2; simp [Region.binds] at k9; simp [execOp, go_sem, h9, k9, q0])
    refine RV.AllDo.cons _ (RV.does_call (fun γ L a w hH hl hA => by have h9 := T _ _ γ L a w hH; have k9 := hA; simp [Region.binds] at k9; have hB9 := hH.glob; exact ⟨120, #[.int .i64 z], by simp [go_sem, h9, k9], Calls.mono (S3.out w) (by rintro e w2 ⟨rfl, rfl⟩; exact ⟨_, rfl, ((kn.at (k := 8) rfl _ _).2 rfl), fun j v _ h => h, hB9⟩)⟩)) ?_
    refine RV.AllDo.cons _ (RV.does_step (fun γ L a w hH hl hA => by have h9 := T _ _ γ L a w hH; have k9 := hA; simp [Region.binds] at k9; have hB9 := hH.glob; exact ⟨.slice (some ⟨w.heap.size, 0, none⟩) 3 3, w.alloc (.cells #[.int .i64 (nx : Int), .int .i64 (ny : Int), .int .i64 (nz : Int)] 3), by simp [execOp, go_sem, h9, k9], (r9 _ _).mpr ⟨w.heap.size, rfl, hB9.size, Cells.new w [.int .i64 (nx : Int), .int .i64 (ny : Int), .int .i64 (nz : Int)] 3⟩, fun j v _ h => K j v _ _ (n_after w _) h, hB9.trans ((n_after w _).mono hB9.size)⟩)) ?_
    refine RV.AllDo.cons _ (RV.does_pure (fun γ v L w hl h => h) (fun γ L a w hH hl hA => by have l0 : L 9 = true := hA ⟨9, .data⟩ (by simp) rfl; have e0 := hH.slot 9 18 (by rw [← hD]; rfl) l0; have g0 := hH.holds 9 l0; rw [r9] at g0; exact ⟨γ 9, by simp [execOp, go_sem, e0], (r10 _ _).mpr g0⟩)) ?_
    exact RV.AllDo.nil
  · intro γ a5 w5 L9 hL hLo hH
    have ha := RV.held_act hH hL (by kernel_rfl) (by kernel_rfl)
    have hb8 := hH.glob
    obtain ⟨gs, y10, hgs, HCE⟩ := hH.holds 10 (hL 10 (by decide))
    rw [ha]
    clear ha hH hL hLo
    simp only [RV.putAll, Act.put, List.setIfInBounds_toArray, List.set_cons_zero, List.set_cons_succ, Nat.zero_add, Nat.reduceAdd]
    rw [y10]
    have hB5 : Hid _ := hBV.trans (hb8.mono hBV.size)
    have HCE : Hid _ := HCE
    have b0 : Hid (Box3 w5 w0.heap.size ⟨x, y, z⟩) := ⟨c_after hb8 V0_0, c_after hb8 V0_1, c_after hb8 V0_2, f_after hb8 V0_0 Vf0_0, f_after hb8 V0_1 Vf0_1, f_after hb8 V0_2 Vf0_2⟩
    have b1 : Hid (Box3 w5 (w0.heap.size + 1) Pt.O) := ⟨c_after hb8 V1_0, c_after hb8 V1_1, c_after hb8 V1_2, f_after hb8 V1_0 Vf1_0, f_after hb8 V1_1 Vf1_1, f_after hb8 V1_2 Vf1_2⟩
    clear y10 hb8 V0_0 V0_1 V0_2 Vf0_0 Vf0_1 Vf0_2 V1_0 V1_1 V1_2 Vf1_0 Vf1_1 Vf1_2 hBV S1 S2 S3
    go_wp2_with (fail)
    go_loopg [3, 5] 3 (fun gm s3 s5 wr => ∃ i : Nat, s3 = .int .i64 (gFirst nx ny nz i : Nat) ∧ s5 = .int .i64 (i : Int) ∧ i ≤ 3 ∧ gm = 3 - i ∧ wr = w5)
    case atStart => exact ⟨0, rfl, rfl, by omega, rfl, rfl⟩
    case round =>
      obtain ⟨i, rfl, rfl, hi, hgm, hwr⟩ := hrel
      subst hwr
      have HG1 : Hid _ := hgm
      clear hgm
      by_cases hit : i < 3
      · have hc := nth3_cell HCE.out i hit
        have HN : Hid _ := gFirst_next nx ny nz i hit
        have l1 := HLE.out i
        have l2 := HLN.out i
        generalize nth3 nx ny nz i = nb at *
        generalize hga : gFirst nx ny nz i = na at *
        clear hga
        go_wp2_with (fail)
        go_loopg [6, 7] nb (fun gm s6 s7 wx => ∃ a b : Nat, s6 = .int .i64 (a : Int) ∧ s7 = .int .i64 (b : Int) ∧ a ≤ 4398046511104 ∧ b ≤ 4398046511104 ∧ gm = b ∧ wx = wr ∧ Hid (Nat.gcd a b = gFirst nx ny nz (i + 1)))
        case atStart => exact ⟨na, nb, rfl, rfl, l1, l2, rfl, rfl, HN⟩
        case round =>
          clear HN l1 l2
          obtain ⟨a, b, rfl, rfl, la, lb, hgm, hwx, HN⟩ := hrel
          subst hwx
          have HG2 : Hid _ := hgm
          clear hgm
          by_cases hb0 : b = 0
          · subst hb0
            have e : a = gFirst nx ny nz (i + 1) := by rw [← HN.out]; simp
            clear HN
            have HE : Hid _ := e
            clear e
            go_wp2_with (fail)
            go_roundg (3 - (i + 1))
            case measure => have := HG1.out; omega
            case rel => exact ⟨i + 1, by rw [← HE.out], by go_num, by omega, rfl, rfl⟩
          · have hb1 : ¬ (b : Int) = 0 := by omega
            have hlt := Nat.mod_lt a (Nat.pos_of_ne_zero hb0)
            have HN2 : Hid (Nat.gcd b (a % b) = gFirst nx ny nz (i + 1)) := by show _ = _; rw [← HN.out, Nat.gcd_comm a b, Nat.gcd_rec b a, Nat.gcd_comm]
            clear HN hb0
            go_wp2_with (fail)
            go_roundg (a % b)
            case measure => have := HG2.out; omega
            case rel => exact ⟨b, a % b, rfl, by go_num, lb, by omega, rfl, rfl, HN2⟩
      · have e : i = 3 := by omega
        subst e
        rw [hg3.out]
        have hGl : G ≤ 4398046511104 := by have := HLE.out 3; rw [hg3.out] at this; exact this
        obtain ⟨c0, c1, c2, _, _, _⟩ := b0.out
        obtain ⟨r0, r1, r2, f0, f1, f2⟩ := b1.out
        simp only [Pt.O] at r0 r1 r2
        dsimp only at c0 c1 c2
        by_cases h0 : G = 0
        · have h0' : (G : Int) = 0 := by omega
          have e : r = ⟨x, y, z⟩ := by rw [HL.out, if_pos h0]
          subst e
          clear HL h0
          go_wp2_with (fail)
          refine bodyPost_ret (v := .agg #[.int .i64 x, .int .i64 y, .int .i64 z]) (by simp [results, Tryz.results119, go_sem, r0, r1, r2]) rfl ⟨rfl, ?_⟩
          exact set3_below hB5.out (by omega) _ _ _
        · have h0' : ¬ (G : Int) = 0 := by omega
          have h0p : 0 < (G : Int) := by omega
          have e : r = Pt.by ⟨x, y, z⟩ G := by rw [HL.out, if_neg h0]
          clear HL
          obtain ⟨rx, ry, rz⟩ := r
          simp only [Pt.by, Pt.mk.injEq] at e
          obtain ⟨rfl, rfl, rfl⟩ := e
          clear h0
          have hne : ¬ w0.heap.size = w0.heap.size + 1 := by omega
          go_wp2_with (fail)
          go_region
          go_wp2_with (fail)
          refine bodyPost_ret (v := .agg #[.int .i64 (x.tdiv G), .int .i64 (y.tdiv G), .int .i64 (z.tdiv G)]) (by simp [results, Tryz.results119, go_sem, r0, r1, r2]) rfl ⟨rfl, ?_⟩
          exact set3_below hB5.out.drew (by omega) _ _ _
set_option maxHeartbeats 2000000 in
set_option maxRecDepth 100000 in
theorem rshort_any (p : Pt) (w0 : World) :
    Calls Tryz.prog 74 #[p.v] w0 fun e W => e = .returned p.short.v ∧ Below w0.heap.size w0 W := by
  have HLO : Hid (∀ q : Pt, q.inB 4398046511104 = true → ∀ w', Calls Tryz.prog 119 #[q.v] w' fun e W => e = .returned q.low.v ∧ Below w'.heap.size w' W) := fun q hq w' => bare_any q w' hq
  have bx0 : Hid (Box3 ((w0.alloc (.cells #[.int .i64 p.x, .int .i64 p.y, .int .i64 p.z] 23)).alloc (.cells #[.int .i64 0, .int .i64 0, .int .i64 0] 23)) w0.heap.size p) := (Box3.new w0 p.x p.y p.z _).step (n_after _ _)
  have bx1 : Hid (Box3 ((w0.alloc (.cells #[.int .i64 p.x, .int .i64 p.y, .int .i64 p.z] 23)).alloc (.cells #[.int .i64 0, .int .i64 0, .int .i64 0] 23)) (w0.heap.size + 1) Pt.O) := by have := Box3.new (w0.alloc (.cells #[.int .i64 p.x, .int .i64 p.y, .int .i64 p.z] 23)) 0 0 0 23; rwa [World.size_alloc] at this
  have hB0 : Hid (Below w0.heap.size w0 ((w0.alloc (.cells #[.int .i64 p.x, .int .i64 p.y, .int .i64 p.z] 23)).alloc (.cells #[.int .i64 0, .int .i64 0, .int .i64 0] 23))) := b_step (n_after w0 _) (n_after _ _)
  obtain ⟨r, hr⟩ : ∃ r, p.short = r := ⟨_, rfl⟩
  rw [hr]
  have HR : Hid _ := hr
  clear hr
  have HIN : Hid (p.inB 4398046511104 = (inR p.x (-4398046511104) 4398046511104 && (inR p.y (-4398046511104) 4398046511104 && inR p.z (-4398046511104) 4398046511104))) := by
    show _ = _
    rw [Bool.eq_iff_iff, Pt.inB_iff]
    simp [inR]
  unfold Pt.v at *
  go_enter Tryz.func74, Tryz.ntmps74
  go_upto_region 1 with fail
  obtain ⟨V, hV⟩ : ∃ V : World, V = (w0.alloc (.cells #[.int .i64 p.x, .int .i64 p.y, .int .i64 p.z] 23)).alloc (.cells #[.int .i64 0, .int .i64 0, .int .i64 0] 23) := ⟨_, rfl⟩
  rw [← hV] at bx0 bx1 hB0 ⊢
  clear hV
  obtain ⟨c0, c1, c2, _, _, _⟩ := bx0.out
  go_cut [19] from 4 (fun s wc => s = .bool (!(p.inB 4398046511104)) ∧ wc = V)
  case first =>
    cases h1 : inR p.x (-4398046511104) 4398046511104 with
    | false =>
      go_wp2_with (go_at_call 118; refine (rin_is _ _ _ _ false h1).mono ?_; rintro e w' ⟨rfl, rfl⟩)
      go_meet
      case rel => exact ⟨by rw [HIN.out, h1]; rfl, rfl⟩
    | true =>
      cases h2 : inR p.y (-4398046511104) 4398046511104 with
      | false =>
        go_wp2_with (fail)
        refine Calls.mono (rin_is p.x _ _ _ true h1) ?_
        rintro e w' ⟨rfl, rfl⟩
        go_wp2_with (fail)
        refine Calls.mono (rin_is p.y _ _ _ false h2) ?_
        rintro e w' ⟨rfl, rfl⟩
        go_wp2_with (fail)
        go_meet
        case rel => exact ⟨by rw [HIN.out, h1, h2]; rfl, rfl⟩
      | true =>
        cases h3 : inR p.z (-4398046511104) 4398046511104 with
        | false =>
          go_wp2_with (fail)
          refine Calls.mono (rin_is p.x _ _ _ true h1) ?_
          rintro e w' ⟨rfl, rfl⟩
          go_wp2_with (fail)
          refine Calls.mono (rin_is p.y _ _ _ true h2) ?_
          rintro e w' ⟨rfl, rfl⟩
          go_wp2_with (fail)
          refine Calls.mono (rin_is p.z _ _ _ false h3) ?_
          rintro e w' ⟨rfl, rfl⟩
          go_wp2_with (fail)
          go_meet
          case rel => exact ⟨by rw [HIN.out, h1, h2, h3]; rfl, rfl⟩
        | true =>
          go_wp2_with (fail)
          refine Calls.mono (rin_is p.x _ _ _ true h1) ?_
          rintro e w' ⟨rfl, rfl⟩
          go_wp2_with (fail)
          refine Calls.mono (rin_is p.y _ _ _ true h2) ?_
          rintro e w' ⟨rfl, rfl⟩
          go_wp2_with (fail)
          refine Calls.mono (rin_is p.z _ _ _ true h3) ?_
          rintro e w' ⟨rfl, rfl⟩
          go_wp2_with (fail)
          go_meet
          case rel => exact ⟨by rw [HIN.out, h1, h2, h3]; rfl, rfl⟩
  case rest =>
    obtain ⟨rfl, hwc⟩ := hcut
    subst hwc
    clear HIN c0 c1 c2
    cases hin : p.inB 4398046511104 with
    | false =>
      have e : r = Pt.O := by rw [← HR.out]; unfold Pt.short; rw [if_neg (by rw [hin]; decide)]
      clear HR
      subst e
      obtain ⟨c0, c1, c2, f0, f1, f2⟩ := bx1.out
      simp only [Pt.O] at c0 c1 c2
      go_wp2_with (fail)
      refine bodyPost_ret (v := .agg #[.int .i64 0, .int .i64 0, .int .i64 0]) (by simp [results, Tryz.results74, go_sem, c0, c1, c2]) rfl ⟨rfl, ?_⟩
      exact set3_below hB0.out (by omega) 0 0 0
    | true =>
      have hlow := Pt.low_in hin
      have HR : Hid (r = (halveF 43 p.low).low) := by show _ = _; rw [← HR.out]; unfold Pt.short; rw [if_pos hin]; rfl
      have HL1 : Hid _ := HLO.out p hin
      obtain ⟨c0, c1, c2, _, _, _⟩ := bx0.out
      go_wp2_with (fail)
      refine Calls.mono (HL1.out _) ?_
      clear HL1 c0 c1 c2
      rintro e V2 ⟨rfl, hb⟩
      have b1 : Hid _ := (bx1.out.step hb).step (n_after V2 (.cells #[.int .i64 p.low.x, .int .i64 p.low.y, .int .i64 p.low.z] 23))
      have hB : Hid _ := b_step (b_step hB0.out hb) (n_after V2 (.cells #[.int .i64 p.low.x, .int .i64 p.low.y, .int .i64 p.low.z] 23))
      have b3 : Hid _ := Box3.new V2 p.low.x p.low.y p.low.z 23
      have hsz : w0.heap.size + 1 < V2.heap.size := (bx1.out.step hb).lt
      clear hb
      go_wp2_with (fail)
      obtain ⟨bq, hbq⟩ : ∃ bq, bq = V2.heap.size := ⟨_, rfl⟩
      rw [← hbq] at b3 hsz ⊢
      have hL2 : p.low.inB (2 ^ 43 : Nat) = true := inB_mono hlow (by decide)
      go_loopg [] 43 (fun g wr => ∃ q : Pt, Hid (Box3 wr bq q) ∧ Hid (Box3 wr (w0.heap.size + 1) Pt.O) ∧ Hid (Below w0.heap.size w0 wr) ∧ g ≤ 43 ∧ Hid (halveF g q = halveF 43 p.low) ∧ Hid (q.inB (2 ^ g : Nat) = true))
      case atStart => exact ⟨p.low, b3, b1, hB, Nat.le_refl _, rfl, hL2⟩
      case round =>
        clear b3 b1 hB hL2 hbq
        obtain ⟨q, b3, b1, hB, hg, HF, HI⟩ := hrel
        have hG : Hid _ := hg
        have hq2 : q.inB 1152921504606846976 = true := inB_mono HI.out (by have := cast_pow _ hg; omega)
        rw [Pt.inB_iff] at hq2
        clear hg
        obtain ⟨c0, c1, c2, f0, f1, f2⟩ := b3.out
        have HX : Hid (q.inB 1048576 = !(decide (1048576 < (q.x.natAbs : Int)) || (decide (1048576 < (q.y.natAbs : Int)) || decide (1048576 < (q.z.natAbs : Int))))) := by
          show _ = _
          rw [Bool.eq_iff_iff, Pt.inB_iff]
          simp
          omega
        go_upto_region 4 with fail
        go_cut [38] from 23 to 48 (fun s wc => s = .bool (!(q.inB 1048576)) ∧ wc = wr)
        case first =>
          by_cases h1 : 1048576 < (q.x.natAbs : Int)
          · go_wp2_with (fail)
            refine Calls.mono (rsize_any q.x _ hq2.1) ?_
            rintro e w' ⟨rfl, rfl⟩
            go_wp2_with (fail)
            go_meet
            case rel => exact ⟨by rw [HX.out]; simp [h1], rfl⟩
          · by_cases h2 : 1048576 < (q.y.natAbs : Int)
            · go_wp2_with (fail)
              refine Calls.mono (rsize_any q.x _ hq2.1) ?_
              rintro e w' ⟨rfl, rfl⟩
              go_wp2_with (fail)
              refine Calls.mono (rsize_any q.y _ hq2.2.1) ?_
              rintro e w' ⟨rfl, rfl⟩
              go_wp2_with (fail)
              go_meet
              case rel => exact ⟨by rw [HX.out]; simp [h2], rfl⟩
            · go_wp2_with (fail)
              refine Calls.mono (rsize_any q.x _ hq2.1) ?_
              rintro e w' ⟨rfl, rfl⟩
              go_wp2_with (fail)
              refine Calls.mono (rsize_any q.y _ hq2.2.1) ?_
              rintro e w' ⟨rfl, rfl⟩
              go_wp2_with (fail)
              refine Calls.mono (rsize_any q.z _ hq2.2.2) ?_
              rintro e w' ⟨rfl, rfl⟩
              go_wp2_with (fail)
              go_meet
              case rel => exact ⟨by rw [HX.out, Bool.not_not, decide_eq_false (p := 1048576 < (q.x.natAbs : Int)) (by omega), decide_eq_false (p := 1048576 < (q.y.natAbs : Int)) (by omega)]; rfl, rfl⟩
        case rest =>
          obtain ⟨rfl, hwc⟩ := hcut
          subst hwc
          clear HX
          cases hq : q.inB 1048576 with
          | false =>
            obtain ⟨j, hj, ej, hin2⟩ := halveF_step _ q hq HI.out
            have HJ : Hid _ := And.intro hj (And.intro ej hin2)
            have b3 : Hid (Box3 (set3 wc bq (q.by 2).x (q.by 2).y (q.by 2).z) bq (q.by 2)) := b3.out.set _ _ _
            have b1 : Hid (Box3 (set3 wc bq (q.by 2).x (q.by 2).y (q.by 2).z) (w0.heap.size + 1) Pt.O) := b1.out.other (by omega) _ _ _
            have hB : Hid (Below w0.heap.size w0 (set3 wc bq (q.by 2).x (q.by 2).y (q.by 2).z)) := set3_below hB.out (by omega) _ _ _
            unfold set3 at b3 b1 hB
            clear hj ej hin2
            go_wp2_with (fail)
            go_roundg j
            case measure => have := HJ.out.1; omega
            case rel => exact ⟨q.by 2, b3, b1, hB, by have := HJ.out.1; have := hG.out; omega, HJ.out.2.1.symm.trans HF.out, HJ.out.2.2⟩
          | true =>
            have e : r = q.low := by rw [HR.out, ← HF.out, halveF_id _ _ hq]
            have HL1 : Hid _ := HLO.out q (inB_mono hq (by decide))
            rw [← e] at HL1
            clear e HR HF HI HLO
            go_wp2_with (fail)
            refine Calls.mono (HL1.out _) ?_
            clear HL1 c0 c1 c2 f0 f1 f2
            rintro e V4 ⟨rfl, hb⟩
            obtain ⟨c0, c1, c2, f0, f1, f2⟩ := b1.out.step hb
            have hB : Hid _ := b_step hB.out hb
            go_wp2_with (fail)
            refine bodyPost_ret (v := .agg #[.int .i64 r.x, .int .i64 r.y, .int .i64 r.z]) (by simp [results, Tryz.results74, go_sem, c0, c1, c2]) rfl ⟨rfl, ?_⟩
            exact set3_below hB.out (by omega) _ _ _
end Go.Proofs.YtbhdfjoagajipaaGreat
namespace Go.Proofs.YtbhdfjoagajipaaGreat
open Go.RowKit Go.Shelf
set_option linter.unusedVariables false

set_option maxHeartbeats 2000000 in
set_option maxRecDepth 100000 in
theorem rlong9_any (p0 : Pt) (w0 : World) :
    Calls Tryz.prog 147 #[p0.v] w0 fun e W => e = .returned p0.lng.v ∧ Below w0.heap.size w0 W := by
  have HS : Hid _ := fun w' => rshort_any p0 w'
  have HX : Hid (∀ q : Pt, ∀ w', Calls Tryz.prog 146 #[q.v, .int .i64 524288] w' fun e W => e = .returned (.bool (q.inB 524288)) ∧ Below w'.heap.size w' W) := fun q w' => rin9_any q 524288 w' (by decide)
  have HL : Hid (p0.lng = if p0.short = Pt.O then Pt.O else lngF 20 p0.short) := rfl
  have HI0 := short_in p0
  have bx0 : Hid (Box3 ((w0.alloc (.cells #[.int .i64 p0.x, .int .i64 p0.y, .int .i64 p0.z] 23)).alloc (.cells #[.int .i64 0, .int .i64 0, .int .i64 0] 23)) w0.heap.size p0) := (Box3.new w0 p0.x p0.y p0.z _).step (n_after _ _)
  have bx1 : Hid (Box3 ((w0.alloc (.cells #[.int .i64 p0.x, .int .i64 p0.y, .int .i64 p0.z] 23)).alloc (.cells #[.int .i64 0, .int .i64 0, .int .i64 0] 23)) (w0.heap.size + 1) Pt.O) := by have := Box3.new (w0.alloc (.cells #[.int .i64 p0.x, .int .i64 p0.y, .int .i64 p0.z] 23)) 0 0 0 23; rwa [World.size_alloc] at this
  have hB0 : Hid (Below w0.heap.size w0 ((w0.alloc (.cells #[.int .i64 p0.x, .int .i64 p0.y, .int .i64 p0.z] 23)).alloc (.cells #[.int .i64 0, .int .i64 0, .int .i64 0] 23))) := b_step (n_after w0 _) (n_after _ _)
  generalize p0.short = p at *
  generalize p0.lng = r at *
  obtain ⟨px, py, pz⟩ := p0
  obtain ⟨W0, hW0⟩ : ∃ W0, W0 = ((w0.alloc (.cells #[.int .i64 px, .int .i64 py, .int .i64 pz] 23)).alloc (.cells #[.int .i64 0, .int .i64 0, .int .i64 0] 23)) := ⟨_, rfl⟩
  dsimp only at bx0 bx1 hB0
  rw [← hW0] at bx0 bx1 hB0
  obtain ⟨c0, c1, c2, _, _, _⟩ := bx0.out
  unfold Pt.v at *
  dsimp only at *
  go_enter Tryz.func147, Tryz.ntmps147
  go_upto_region 1 with fail
  rw [← hW0]
  clear hW0
  go_wp2_with (fail)
  refine Calls.mono (HS.out _) ?_
  clear HS
  rintro e V ⟨rfl, hb⟩
  have bx0 : Hid (Box3 V w0.heap.size ⟨px, py, pz⟩) := bx0.out.step hb
  have bx2 : Hid (Box3 V (w0.heap.size + 1) Pt.O) := bx1.out.step hb
  have hB2 : Hid _ := b_step hB0.out hb
  clear hb c0 c1 c2 bx1 hB0
  obtain ⟨c0, c1, c2, f0, f1, f2⟩ := bx0.out
  dsimp only at c0 c1 c2
  obtain ⟨sx, sy, sz⟩ := p
  dsimp only at *
  go_upto_region 2 with fail
  have bx1 : Hid (Box3 (set3 V w0.heap.size sx sy sz) w0.heap.size ⟨sx, sy, sz⟩) := bx0.out.set _ _ _
  have bx2 : Hid (Box3 (set3 V w0.heap.size sx sy sz) (w0.heap.size + 1) Pt.O) := bx2.out.other (by omega) _ _ _
  have hB2 : Hid (Below w0.heap.size w0 (set3 V w0.heap.size sx sy sz)) := set3_below hB2.out (Nat.le_refl _) _ _ _
  unfold set3 at bx1 bx2 hB2
  generalize ((V.setCell ⟨w0.heap.size, 0, none⟩ (.int .i64 sx)).setCell ⟨w0.heap.size, 1, none⟩ (.int .i64 sy)).setCell ⟨w0.heap.size, 2, none⟩ (.int .i64 sz) = W1 at *
  clear c0 c1 c2 f0 f1 f2 bx0
  obtain ⟨c0, c1, c2, f0, f1, f2⟩ := bx1.out
  dsimp only at c0 c1 c2
  by_cases hz : (⟨sx, sy, sz⟩ : Pt) = Pt.O
  · have e9 : r = Pt.O := by rw [HL.out, if_pos hz]
    subst e9
    have e3 : sx = 0 ∧ sy = 0 ∧ sz = 0 := by simpa [Pt.O] using hz
    obtain ⟨rfl, rfl, rfl⟩ := e3
    clear HL hz
    obtain ⟨c3, c4, c5, f3, f4, f5⟩ := bx2.out
    simp only [Pt.O] at c3 c4 c5
    go_wp2_with (fail)
    refine bodyPost_ret (v := .agg #[.int .i64 0, .int .i64 0, .int .i64 0]) (by simp [results, Tryz.results147, go_sem, c3, c4, c5]) rfl ⟨rfl, ?_⟩
    exact set3_below hB2.out (by omega) 0 0 0
  · have HR : Hid (r = lngF 20 ⟨sx, sy, sz⟩) := by show _ = _; rw [HL.out, if_neg hz]
    have HB0 : Hid (Pt.far ⟨sx, sy, sz⟩ (20 - 20)) := far_zero hz
    have hz3 : sx = 0 → sy = 0 → ¬ sz = 0 := fun a b c => hz (by rw [a, b, c]; rfl)
    clear HL hz HI0
    go_cut [8] from 5 (fun s7 wx => s7 = .bool false ∧ wx = W1)
    case first =>
      go_wp2_with (fail)
      all_goals first
        | (exfalso; exact hz3 (by assumption) (by assumption) (by assumption))
        | (go_meet; case rel => exact ⟨rfl, rfl⟩)
    case rest =>
      obtain ⟨rfl, e9⟩ := hcut
      subst e9
      clear hz3 c0 c1 c2 f0 f1 f2
      go_wp2_with (fail)
      go_loopg [] 20 (fun g wr => ∃ q : Pt, Hid (Box3 wr w0.heap.size q) ∧ Hid (Box3 wr (w0.heap.size + 1) Pt.O) ∧ Hid (Below w0.heap.size w0 wr) ∧ g ≤ 20 ∧ Hid (lngF g q = lngF 20 ⟨sx, sy, sz⟩) ∧ Hid (q.far (20 - g)))
      case atStart => exact ⟨_, bx1, bx2, hB2, Nat.le_refl _, rfl, HB0⟩
      case round =>
        clear bx1 bx2 hB2 HB0
        obtain ⟨q, b0, b1, hB, hg, HF, HI⟩ := hrel
        have hG : Hid _ := hg
        clear hg
        obtain ⟨c0, c1, c2, f0, f1, f2⟩ := b0.out
        go_wp2_with (fail)
        refine Calls.mono (HX.out q _) ?_
        rintro e V3 ⟨rfl, hb⟩
        clear c0 c1 c2 f0 f1 f2
        have b0 : Hid _ := b0.out.step hb
        have b1 : Hid _ := b1.out.step hb
        have hB : Hid _ := b_step hB.out hb
        clear hb
        cases hq : q.inB 524288 with
        | true =>
          have h1g := far_lt hq HI.out
          obtain ⟨g', hg'⟩ : ∃ g', gk = g' + 1 := ⟨gk - 1, by omega⟩
          subst hg'
          have HJ1 : Hid _ := lngF_step (g := g') hq
          have HJ2 : Hid (q.dbl.far (20 - g')) := by have h5 := far_dbl HI.out; rwa [show 20 - (g' + 1) + 1 = 20 - g' by have := hG.out; omega] at h5
          clear h1g
          have hqi := (Pt.inB_iff q 524288).1 hq
          have u0 : IntKind.i64.wrap (2 * q.x) = q.dbl.x := by unfold Pt.dbl; dsimp only; rw [IntKind.wrap_i64]; omega
          have u1 : IntKind.i64.wrap (2 * q.y) = q.dbl.y := by unfold Pt.dbl; dsimp only; rw [IntKind.wrap_i64]; omega
          have u2 : IntKind.i64.wrap (2 * q.z) = q.dbl.z := by unfold Pt.dbl; dsimp only; rw [IntKind.wrap_i64]; omega
          have b9 : Hid (Box3 (set3 V3 w0.heap.size q.dbl.x q.dbl.y q.dbl.z) w0.heap.size q.dbl) := b0.out.set _ _ _
          have b8 : Hid (Box3 (set3 V3 w0.heap.size q.dbl.x q.dbl.y q.dbl.z) (w0.heap.size + 1) Pt.O) := b1.out.other (by omega) _ _ _
          have hB9 : Hid (Below w0.heap.size w0 (set3 V3 w0.heap.size q.dbl.x q.dbl.y q.dbl.z)) := set3_below hB.out (Nat.le_refl _) _ _ _
          obtain ⟨c0, c1, c2, f0, f1, f2⟩ := b0.out
          unfold set3 at b9 b8 hB9
          clear b0 b1 hB hqi hq
          go_wp2_with (fail)
          go_roundg g'
          case rel => exact ⟨q.dbl, b9, b8, hB9, by have := hG.out; omega, by show _ = _; rw [← HJ1.out]; exact HF.out, HJ2⟩
          case measure => omega
        | false =>
          have e9 : r = q := by rw [HR.out, ← HF.out, lngF_stop hq]
          subst e9
          obtain ⟨c0, c1, c2, f0, f1, f2⟩ := b0.out
          obtain ⟨c3, c4, c5, f3, f4, f5⟩ := b1.out
          simp only [Pt.O] at c3 c4 c5
          go_wp2_with (fail)
          refine bodyPost_ret (v := .agg #[.int .i64 r.x, .int .i64 r.y, .int .i64 r.z]) (by simp [results, Tryz.results147, go_sem, c3, c4, c5]) rfl ⟨rfl, ?_⟩
          exact set3_below hB.out (by omega) r.x r.y r.z
end Go.Proofs.YtbhdfjoagajipaaGreat
namespace Go.Proofs.YtbhdfjoagajipaaGreat
open Go.RowKit Go.Shelf
set_option linter.unusedVariables false

/-- A dot product, step by step. -/
theorem dot_steps {n p : Pt} (hn : n.inB 67108864 = true) (hp : p.inB 67108864 = true) : ∃ a b c d : Int, IntKind.i64.wrap (n.x * p.x) = a ∧ IntKind.i64.wrap (n.y * p.y) = b ∧ IntKind.i64.wrap (a + b) = c ∧ IntKind.i64.wrap (n.z * p.z) = d ∧ IntKind.i64.wrap (c + d) = n.dot p := by
  rw [Pt.inB_iff] at hn hp
  have h1 := mul_in hn.1 hp.1
  have h2 := mul_in hn.2.1 hp.2.1
  have h3 := mul_in hn.2.2 hp.2.2
  refine ⟨n.x * p.x, n.y * p.y, n.x * p.x + n.y * p.y, n.z * p.z, ?_, ?_, ?_, ?_, ?_⟩
  · rw [IntKind.wrap_i64]; omega
  · rw [IntKind.wrap_i64]; omega
  · rw [IntKind.wrap_i64]; omega
  · rw [IntKind.wrap_i64]; omega
  · unfold Pt.dot; rw [IntKind.wrap_i64]; omega
set_option maxHeartbeats 4000000 in
set_option maxRecDepth 100000 in
theorem rfar9_any (n : Pt) (P : List Pt) (v : Value) (w0 : World) (hv : Lies w0 v P) (h0 : 0 < P.length) (hn : n.inB 67108864 = true) (hP : ∀ p ∈ P, p.inB 67108864 = true) :
    Calls Tryz.prog 148 #[v, n.v] w0 fun e W => e = .returned (.int .i64 (hiP n P)) ∧ Below w0.heap.size w0 W := by
  obtain ⟨o, cap, rfl, hlc, hcm, hcell⟩ := hv.form
  have HC : Hid _ := hcell
  have HD : Hid (∀ i, i < P.length → ∃ a b c d : Int, IntKind.i64.wrap (n.x * (pt P i).x) = a ∧ IntKind.i64.wrap (n.y * (pt P i).y) = b ∧ IntKind.i64.wrap (a + b) = c ∧ IntKind.i64.wrap (n.z * (pt P i).z) = d ∧ IntKind.i64.wrap (c + d) = n.dot (pt P i)) := fun i hi => dot_steps hn (hP _ (pt_mem hi))
  have HE : Hid (hiP n P = hiK n P (P.length - 1)) := rfl
  have HK0 : Hid (n.dot (pt P 0) = hiK n P 0) := rfl
  have HKS : Hid (∀ k, hiK n P (k + 1) = max (hiK n P k) (n.dot (pt P (k + 1)))) := fun k => rfl
  generalize hiP n P = R9 at *
  generalize hiK n P = hk at *
  generalize hdt : (fun i => n.dot (pt P i)) = dt at *
  have hdt' : ∀ i, n.dot (pt P i) = dt i := fun i => by rw [← hdt]
  simp only [hdt'] at HD HK0 HKS
  clear hdt hdt' hv hn hP hcell
  obtain ⟨x, y, z⟩ := n
  unfold Pt.v
  dsimp only at *
  obtain ⟨V, hV⟩ : ∃ V, V = w0.alloc (.cells #[.int .i64 x, .int .i64 y, .int .i64 z] 23) := ⟨_, rfl⟩
  obtain ⟨nb, hnb⟩ : ∃ b, b = w0.heap.size := ⟨_, rfl⟩
  have HB : Hid (Below w0.heap.size w0 V) := by show Below _ _ _; rw [hV]; exact n_after _ _
  have CN : Hid (Cel V nb [.int .i64 x, .int .i64 y, .int .i64 z]) := by show Cel _ _ _; rw [hV, hnb]; exact Cel.new _ _ _
  go_enter Tryz.func148, Tryz.ntmps148
  go_upto_region 1 with fail
  rw [← hV, ← hnb]
  clear hV hnb
  have d0 := CN.out 0 _ rfl
  have d1 := CN.out 1 _ rfl
  have d2 := CN.out 2 _ rfl
  go_cut [5] from 7 to 64 (fun s5 wx => s5 = .int .i64 (hk 0) ∧ Hid (Below V.heap.size V wx))
  case first =>
    obtain ⟨g, f, rfl, x0, x1, x2⟩ := HC.out 0 h0
    rw [Nat.zero_mul, Nat.add_zero] at x0 x1 x2
    have x0 := c_after HB.out x0
    have x1 := c_after HB.out x1
    have x2 := c_after HB.out x2
    obtain ⟨a, b, c, d, w1, w2, w3, w4, w5⟩ := HD.out 0 h0
    rw [HK0.out] at w5
    generalize hk 0 = kk at *
    generalize (pt P 0).x = px at *
    generalize (pt P 0).y = py at *
    generalize (pt P 0).z = pz at *
    go_quiet (fail)
    go_wp2_with (fail)
    go_meet
    case rel => exact ⟨rfl, ⟨rfl, rfl, rfl, Nat.le_refl _, fun _ _ => rfl⟩⟩
  case rest =>
    obtain ⟨rfl, HB1⟩ := hcut
    clear d0 d1 d2
    go_wp2_with (fail)
    go_loopg [5, 6] P.length (fun gm s5 s6 wr => ∃ k : Nat, s5 = .int .i64 (hk k) ∧ s6 = .int .i64 ((k : Int) + 1) ∧ k + 1 ≤ P.length ∧ Hid (gm = P.length - k) ∧ Hid (Below V.heap.size V wr))
    case atStart => exact ⟨0, rfl, rfl, by omega, by show _ = _; omega, HB1⟩
    case round =>
      obtain ⟨k, rfl, rfl, hk1, HG, HB2⟩ := hrel
      have HB3 : Hid (Below w0.heap.size w0 wr) := b_step HB.out HB2.out
      by_cases hit : k + 1 < P.length
      · obtain ⟨g, f, rfl, x0, x1, x2⟩ := HC.out (k + 1) hit
        have x0 := c_after HB3.out x0
        have x1 := c_after HB3.out x1
        have x2 := c_after HB3.out x2
        have d0 := c_after HB2.out (CN.out 0 _ rfl)
        have d1 := c_after HB2.out (CN.out 1 _ rfl)
        have d2 := c_after HB2.out (CN.out 2 _ rfl)
        obtain ⟨a, b, c, d, w1, w2, w3, w4, w5⟩ := HD.out (k + 1) hit
        have HS : Hid _ := HKS.out k
        obtain ⟨kk, hkk⟩ : ∃ z, hk k = z := ⟨_, rfl⟩
        obtain ⟨kl, hkl⟩ : ∃ z, hk (k + 1) = z := ⟨_, rfl⟩
        rw [hkk, hkl] at HS
        rw [hkk]
        generalize dt (k + 1) = dd at *
        have zm : (if kk < dd then dd else kk) = kl := by rw [HS.out]; split <;> omega
        generalize (pt P (k + 1)).x = px at *
        generalize (pt P (k + 1)).y = py at *
        generalize (pt P (k + 1)).z = pz at *
        go_upto_region 5 with fail
        go_quiet (fail)
        go_wp2_with (fail)
        go_roundg (P.length - (k + 1))
        case rel => exact ⟨k + 1, by rw [hkl], by simp, by omega, rfl, HB2.out.trans ⟨rfl, rfl, rfl, Nat.le_refl _, fun _ _ => rfl⟩⟩
        case measure => have := HG.out; omega
      · obtain e9 : P.length - 1 = k := by omega
        have HE9 : Hid (R9 = hk k) := by show _ = _; rw [HE.out, e9]
        clear HE e9
        go_wp2_with (fail)
        go_ret
        exact ⟨by rw [HE9.out]; rfl, HB3.out⟩
end Go.Proofs.YtbhdfjoagajipaaGreat
namespace Go.Proofs.YtbhdfjoagajipaaGreat
open Go.RowKit Go.Shelf
set_option linter.unusedVariables false

set_option maxHeartbeats 4000000 in
set_option maxRecDepth 100000 in
theorem rgap9_any (a b : Cr) (n : Pt) (pv av ev qv bv fv : Value) (w0 : World) (hp : Lies w0 pv a.P) (ha : Lies w0 av a.A) (he : Lies w0 ev a.E) (hq : Lies w0 qv b.P) (hb : Lies w0 bv b.A) (hf : Lies w0 fv b.E)
    (h0 : 0 < a.P.length) (h1 : 0 < b.P.length) (hP : ∀ p ∈ a.P, p.inB 16777216 = true) (hQ : ∀ p ∈ b.P, p.inB 16777216 = true) (hr : 0 ≤ a.r ∧ a.r ≤ 65536) (hs : 0 ≤ b.r ∧ b.r ≤ 65536) (hn : n.inB 1048576 = true) (hd : 0 < dn n) :
    Calls Tryz.prog 122 #[coreA pv av ev a.r, coreA qv bv fv b.r, n.v] w0 fun e W => e = .returned (.int .i64 (gapZ a.P b.P a.r b.r n)) ∧ Below w0.heap.size w0 W := by
  obtain ⟨P, A, E, r⟩ := a
  obtain ⟨Q, B, F, s⟩ := b
  dsimp only at *
  obtain ⟨o, cap, rfl, hlc, hcm, _⟩ := hp.form
  obtain ⟨o2, cap2, rfl, _, _, _⟩ := ha.form
  obtain ⟨o3, cap3, rfl, _, _, _⟩ := he.form
  obtain ⟨o4, cap4, rfl, _, _, _⟩ := hq.form
  obtain ⟨o5, cap5, rfl, _, _, _⟩ := hb.form
  obtain ⟨o6, cap6, rfl, _, _, _⟩ := hf.form
  have hnn : n.neg.inB 67108864 = true := by rw [Pt.inB_iff] at hn ⊢; unfold Pt.neg; dsimp only; omega
  have HE1 : Hid _ := fun (w' : World) (h : Below w0.heap.size w0 w') => rfar9_any n P _ w' (hp.below h) h0 (inB_mono hn (by decide)) (fun p h => inB_mono (hP p h) (by decide))
  have HE2 : Hid _ := fun (w' : World) (h : Below w0.heap.size w0 w') => rfar9_any n.neg Q _ w' (hq.below h) h1 hnn (fun p h => inB_mono (hQ p h) (by decide))
  rw [show hiP n.neg Q = -(loP n Q) from hiK_neg n Q _] at HE2
  have HS : Hid _ := fun w' => rsizes9_any n w'
  have hin : n.inB 16777216 = true := inB_mono hn (by decide)
  have e1 : dnT n = dn n := by simp [dnT, hin]
  have e2 : upT n = up n := by simp [upT, hin]
  rw [e1, e2] at HS
  have hu : up n = dn n ∨ up n = dn n + 1 := by unfold up; split <;> simp
  have hdr := dn_rng hin
  obtain ⟨g1, g2⟩ := gap_rng h0 h1 hP hQ hn
  rw [Pt.inB_iff] at hn
  have HG : Hid (gapZ P Q r s n = (if 0 ≤ loP n Q - hiP n P then (loP n Q - hiP n P).tdiv (up n) else -((dn n - 1 - (loP n Q - hiP n P)).tdiv (dn n))) - r - s) := rfl
  clear hp ha he hq hb hf hin e1 e2 hP hQ h0 h1 hnn
  generalize loP n Q = lo at *
  generalize hiP n P = hi at *
  generalize dn n = d at *
  generalize up n = u at *
  generalize gapZ P Q r s n = res at *
  obtain ⟨nx, ny, nz⟩ := n
  unfold coreA Pt.v Pt.neg at *
  dsimp only at *
  obtain ⟨mx, hmx⟩ : ∃ z, -nx = z := ⟨_, rfl⟩
  obtain ⟨my, hmy⟩ : ∃ z, -ny = z := ⟨_, rfl⟩
  obtain ⟨mz, hmz⟩ : ∃ z, -nz = z := ⟨_, rfl⟩
  obtain ⟨nl, hnl⟩ : ∃ z, -lo = z := ⟨_, rfl⟩
  have wx : IntKind.i64.wrap (-nx) = mx := by rw [hmx, IntKind.wrap_i64]; omega
  have wy : IntKind.i64.wrap (-ny) = my := by rw [hmy, IntKind.wrap_i64]; omega
  have wz : IntKind.i64.wrap (-nz) = mz := by rw [hmz, IntKind.wrap_i64]; omega
  have wl : IntKind.i64.wrap (-nl) = lo := by rw [← hnl, IntKind.wrap_i64]; omega
  rw [hmx, hmy, hmz, hnl] at HE2
  clear hmx hmy hmz hnl hn
  obtain ⟨V, hV⟩ : ∃ V, V = ((w0.alloc (.cells #[.slice o P.length cap, .slice o2 A.length cap2, .slice o3 E.length cap3, .int .i64 r] 35)).alloc (.cells #[.slice o4 Q.length cap4, .slice o5 B.length cap5, .slice o6 F.length cap6, .int .i64 s] 35)).alloc (.cells #[.int .i64 nx, .int .i64 ny, .int .i64 nz] 23) := ⟨_, rfl⟩
  obtain ⟨cb, hcb⟩ : ∃ b, b = w0.heap.size := ⟨_, rfl⟩
  have HB : Hid (Below w0.heap.size w0 V) := by show Below _ _ _; rw [hV]; exact b_step (b_step (n_after _ _) (n_after _ _)) (n_after _ _)
  have HC : Hid (V.cell? ⟨cb, 0, none⟩ = some (.slice o P.length cap) ∧ V.cell? ⟨cb, 3, none⟩ = some (.int .i64 r) ∧ V.cell? ⟨cb + 1, 0, none⟩ = some (.slice o4 Q.length cap4) ∧ V.cell? ⟨cb + 1, 3, none⟩ = some (.int .i64 s) ∧ V.cell? ⟨cb + 1 + 1, 0, none⟩ = some (.int .i64 nx) ∧ V.cell? ⟨cb + 1 + 1, 1, none⟩ = some (.int .i64 ny) ∧ V.cell? ⟨cb + 1 + 1, 2, none⟩ = some (.int .i64 nz)) := by
    show _ ∧ _
    rw [hV, hcb]
    simp [go_sem]
  go_enter Tryz.func122, Tryz.ntmps122
  go_upto_region 1 with fail
  rw [← hV, ← hcb]
  clear hV hcb
  obtain ⟨q0, q3, r0, r3, n0, n1, n2⟩ := HC.out
  clear HC
  go_wp2_with (fail)
  refine Calls.mono (HE1.out _ HB.out) ?_
  rintro e V1 ⟨rfl, hb⟩
  have q3 := c_after hb q3
  have r0 := c_after hb r0
  have r3 := c_after hb r3
  have n0 := c_after hb n0
  have n1 := c_after hb n1
  have n2 := c_after hb n2
  have HB : Hid _ := b_step HB.out hb
  clear hb HE1 q0
  go_wp2_with (fail)
  refine Calls.mono (HE2.out _ HB.out) ?_
  rintro e V2 ⟨rfl, hb⟩
  have q3 := c_after hb q3
  have r3 := c_after hb r3
  have n0 := c_after hb n0
  have n1 := c_after hb n1
  have n2 := c_after hb n2
  have HB : Hid _ := b_step HB.out hb
  clear hb HE2 wx wy wz
  obtain ⟨rm, hrm⟩ : ∃ m, lo - hi = m := ⟨_, rfl⟩
  have hrw : IntKind.i64.wrap (lo - hi) = rm := by rw [hrm, IntKind.wrap_i64]; omega
  rw [hrm] at HG
  have HRM : Hid _ := hrm
  clear hrm
  go_wp2_with (fail)
  refine Calls.mono (HS.out _) ?_
  rintro e V3 ⟨rfl, hb⟩
  have q3 := c_after hb q3
  have r3 := c_after hb r3
  have HB : Hid _ := b_step HB.out hb
  clear hb HS n0 n1 n2 wl hrw
  by_cases hge : 0 ≤ rm
  · rw [if_pos hge] at HG
    have hu0 : 0 < u := by omega
    have ht := tdiv_rng (a := rm) (b := u) (C := 105553116266496) ⟨hge, by have := HRM.out; omega⟩ hu0
    obtain ⟨t, ht2⟩ : ∃ t, rm.tdiv u = t := ⟨_, rfl⟩
    rw [ht2] at HG ht
    have hune : ¬ u = 0 := by omega
    have htw : wrap64 t = t := w64 (by omega) (by omega)
    obtain ⟨i1, hi1⟩ : ∃ z, t - r = z := ⟨_, rfl⟩
    have wi1 : IntKind.i64.wrap (t - r) = i1 := by rw [hi1, IntKind.wrap_i64]; omega
    obtain ⟨i2, hi2⟩ : ∃ z, i1 - s = z := ⟨_, rfl⟩
    have wi2 : IntKind.i64.wrap (i1 - s) = i2 := by rw [hi2, IntKind.wrap_i64]; omega
    rw [hi1, hi2] at HG
    clear hi1 hi2
    go_upto_region 6 with fail
    go_quiet (fail)
    go_wp2_with (fail)
    go_ret
    exact ⟨by rw [HG.out]; rfl, HB.out.trans ⟨rfl, rfl, rfl, Nat.le_refl _, fun _ _ => rfl⟩⟩
  · rw [if_neg hge] at HG
    obtain ⟨k, hk⟩ : ∃ k, d - 1 - rm = k := ⟨_, rfl⟩
    have hkr : 0 ≤ k ∧ k ≤ 211106232532992 := by have := HRM.out; omega
    have ht := tdiv_rng (a := k) (b := d) (C := 211106232532992) hkr (by omega)
    obtain ⟨t, ht2⟩ : ∃ t, k.tdiv d = t := ⟨_, rfl⟩
    rw [hk, ht2] at HG
    rw [ht2] at ht
    have hune : ¬ d = 0 := by omega
    have hrr : -52776558133248 - 52776558133248 ≤ rm := by have := HRM.out; omega
    obtain ⟨j1, hj1⟩ : ∃ z, -rm = z := ⟨_, rfl⟩
    have wj1 : IntKind.i64.wrap (-rm) = j1 := by rw [hj1, IntKind.wrap_i64]; omega
    obtain ⟨j2, hj2⟩ : ∃ z, j1 + d = z := ⟨_, rfl⟩
    have wj2 : IntKind.i64.wrap (j1 + d) = j2 := by rw [hj2, IntKind.wrap_i64]; omega
    have wj3 : IntKind.i64.wrap (j2 - 1) = k := by rw [IntKind.wrap_i64]; omega
    have htw : wrap64 t = t := w64 (by omega) (by omega)
    obtain ⟨j4, hj4⟩ : ∃ z, -t = z := ⟨_, rfl⟩
    have wj4 : IntKind.i64.wrap (-t) = j4 := by rw [hj4, IntKind.wrap_i64]; omega
    obtain ⟨i1, hi1⟩ : ∃ z, j4 - r = z := ⟨_, rfl⟩
    have wi1 : IntKind.i64.wrap (j4 - r) = i1 := by rw [hi1, IntKind.wrap_i64]; omega
    obtain ⟨i2, hi2⟩ : ∃ z, i1 - s = z := ⟨_, rfl⟩
    have wi2 : IntKind.i64.wrap (i1 - s) = i2 := by rw [hi2, IntKind.wrap_i64]; omega
    rw [hj4, hi1, hi2] at HG
    clear hj1 hj2 hj4 hi1 hi2 hk
    go_upto_region 7 with fail
    go_quiet (fail)
    go_wp2_with (fail)
    go_ret
    exact ⟨by rw [HG.out]; rfl, HB.out.trans ⟨rfl, rfl, rfl, Nat.le_refl _, fun _ _ => rfl⟩⟩
end Go.Proofs.YtbhdfjoagajipaaGreat
namespace Go.Proofs.YtbhdfjoagajipaaGreat
open Go.RowKit Go.Shelf
set_option linter.unusedVariables false

theorem rowp_form {W : World} {base : Nat} {u : Value} {n : Nat} {xs : List Value} (h : W.ownsRow base 23 3 u n xs) : ∃ o c, u = .slice o n c := by
  rcases h.2 with ⟨rfl, h0⟩ | ⟨g, cap, cur, rfl, _⟩
  · exact ⟨none, 0, by rw [h0]⟩
  · exact ⟨_, _, rfl⟩
theorem pts_read {w : World} {g off n c : Nat} {L : List Pt} (h : Lies w (.slice (some ⟨g, off, none⟩) n c) L) : ∀ j u, (fl3 L)[j]? = some u → w.cell? ((⟨g, off, none⟩ : Addr).add j) = some u := by
  intro j u hj
  obtain ⟨o, cap, e, _, _, hc⟩ := h.form
  simp only [Value.slice.injEq] at e
  obtain ⟨rfl, rfl, rfl⟩ := e
  have hl : j < L.length * 3 := by have := (List.getElem?_eq_some_iff.1 hj).1; rwa [fl3_length] at this
  have hi : j / 3 < L.length := by omega
  obtain ⟨g', off', e', x0, x1, x2⟩ := hc (j / 3) hi
  cases e'
  obtain ⟨f0, f1, f2⟩ := fl3_at L (j / 3) hi
  have ej : j = j / 3 * 3 ∨ j = j / 3 * 3 + 1 ∨ j = j / 3 * 3 + 2 := by omega
  have ad : (⟨g, off, none⟩ : Addr).add j = ⟨g, off + j, none⟩ := by unfold Addr.add; split <;> simp_all
  rw [ad]
  rcases ej with e | e | e
  · rw [e] at hj ⊢; rw [f0] at hj; rw [← hj]; exact x0
  · rw [e] at hj ⊢; rw [f1] at hj; rw [← hj]; rw [← Nat.add_assoc]; exact x1
  · rw [e] at hj ⊢; rw [f2] at hj; rw [← hj]; rw [← Nat.add_assoc]; exact x2
theorem none_run {P : Program} {w : World} (base : Nat) (t ty e : TypeId) (i : TypeInfo) (size : Nat) (ht : P.underlying t = some (.slice e)) (hi : P.info? e = some i) (v : Value) (n c : Nat) (xs : List Value) (hown : w.ownsRow base e size v n xs) :
    (Builtin.append_ #[t, t] ty #[v, .slice none 0 c]).run P w = .ok v w := by
  rcases hown.2 with ⟨rfl, rfl⟩ | ⟨g, cap, cur, rfl, _, _, hnc, _⟩
  · simp [Builtin.append_, run_underlying ht, sizeOf, typeInfo, hi, Builtin.lenOf, Builtin.firstCells]
  · simp [Builtin.append_, run_underlying ht, sizeOf, typeInfo, hi, Builtin.lenOf, Builtin.firstCells, hnc, storeCells]
/-- A list is appended whole to one that is one's own. -/
theorem append_lies {w : World} {ops : Array Oper} {rest : List Oper} {o : Oper} {a : Act} {Q : Exit → Act → World → Prop} (hgd : o.guard = none) (s x : Operand)
    (ho : o.op = .call { callee := .builtin .append, args := #[s, x], argTypes := #[24, 24] })
    (base : Nat) (v : Value) (M : List Pt) (hs : a.eval s = v) (hown : w.ownsRow base 23 3 v M.length (fl3 M)) (xv : Value) (L : List Pt) (hx : a.eval x = xv) (hl : Lies w xv L)
    (hN : M.length + L.length < 2199023255552) (hbase : base ≤ w.heap.size)
    (h : ∀ v' w', w'.ownsRow base 23 3 v' (M ++ L).length (fl3 (M ++ L)) → w.grownBy w' v.ownBlock → (v'.ownBlock = v.ownBlock ∨ v'.ownBlock = some w.heap.size) → wpList Tryz.prog ops Q rest (a.put o.dst v') w') :
    wpList Tryz.prog ops Q (o :: rest) a w := by
  obtain ⟨i0, hii, hiz, hisz, hib⟩ := info_parts point_info
  obtain ⟨oo, cap, rfl, hlc, hcm, hc⟩ := hl.form
  rcases Nat.eq_zero_or_pos L.length with h0 | h0
  · have hL : L = [] := List.length_eq_zero_iff.1 h0
    subst hL
    cases oo with
    | none =>
      refine wpList_plain hgd fun K hK => ?_
      have hrun := none_run (P := Tryz.prog) (w := w) base 24 o.type 23 i0 3 Tryz.underlying24 hii v M.length cap (fl3 M) hown
      unfold Oper.wp
      simp [execOp, ho, resolve, invoke, builtin, hs, hx, hrun, Result.andThen]
      refine hK _ _ (h v w ?_ (below_grown (Below.refl _ _) _) (Or.inl rfl))
      rw [List.append_nil]; exact hown
    | some ad =>
      refine wpList_append_own_at w hgd s x _ ho base 23 i0 _ 3 24 Tryz.underlying24 hii hiz hisz hib rfl (by decide) v M.length (fl3 M) hs hown ad 0 cap [] hx rfl (fun j u e => by simp at e) (fun u e => by simp at e) (by unfold maxLen; omega) (by omega) hbase ?_
      intro v' w' r8 g8 _ s8
      refine h v' w' ?_ g8 s8
      rw [List.append_nil]; simpa using r8
  · obtain ⟨g, off, rfl, _⟩ := hc 0 h0
    refine wpList_append_own_at w hgd s x _ ho base 23 i0 _ 3 24 Tryz.underlying24 hii hiz hisz hib rfl (by decide) v M.length (fl3 M) hs hown ⟨g, off, none⟩ L.length cap (fl3 L) hx (fl3_length L) (pts_read hl) (fl3_one _) (by unfold maxLen; omega) (by omega) hbase ?_
    intro v' w' r8 g8 _ s8
    refine h v' w' ?_ g8 s8
    rw [fl3_append, List.length_append]; exact r8
end Go.Proofs.YtbhdfjoagajipaaGreat
namespace Go.Proofs.YtbhdfjoagajipaaGreat
open Go.RowKit Go.Shelf
set_option linter.unusedVariables false

theorem arr3 {cs : Array Value} (h : cs.size = 3) : ∃ a b c, cs = #[a, b, c] := by
  obtain ⟨l⟩ := cs
  match l, h with
  | [a, b, c], _ => exact ⟨a, b, c, rfl⟩
end Go.Proofs.YtbhdfjoagajipaaGreat
namespace Go.Proofs.YtbhdfjoagajipaaGreat
open Go.RowKit

set_option maxHeartbeats 1000000 in
theorem mul64_any (x y : Int) (w : World) (hx0 : 0 ≤ x) (hx : x < 18446744073709551616) (hy0 : 0 ≤ y) (hy : y < 18446744073709551616) :
    Calls Tryz.prog 150 #[.int .u64 x, .int .u64 y] w fun e w' => e = .returned (.tuple #[.int .u64 (x * y / 18446744073709551616), .int .u64 (x * y % 18446744073709551616)]) ∧ w' = w := by
  have Ha : Hid (_ = _) := mul64_arith x y hx0 hx hy0 hy
  have hmx := and_low32 x hx0 hx
  have hmy := and_low32 y hy0 hy
  have hmt : Hid (∀ z : Int, bits .and .u64 (z % 18446744073709551616) 4294967295 = z % 18446744073709551616 % 4294967296) := fun z => and_low32 _ (by omega) (by omega)
  go_enter Tryz.func150, Tryz.ntmps150
  go_wp2
  simp only [IntKind.wrap_u64, hmt.out, Ha.out]
  go_ret2
  exact ⟨rfl, rfl⟩

theorem sub64_entry {P : Program} (x y b : Nat) (hb : b ≤ 1) (w : World) :
    ((Extern.MathBitsCarry.rows[1]'(by decide)).2 #[.int .u64 x, .int .u64 y, .int .u64 b]).run P w =
      .ok (.tuple #[.int .u64 (((x + 18446744073709551616 - y - b) % 18446744073709551616 : Nat) : Int), .int .u64 ((if x < y + b then 1 else 0 : Nat) : Int)]) w := by
  have : b = 0 ∨ b = 1 := by omega
  rcases this with rfl | rfl <;> rfl

theorem sub64_run (x y b : Int) (w : World) (hx0 : 0 ≤ x) (hx : x < 18446744073709551616) (hy0 : 0 ≤ y) (hy : y < 18446744073709551616) (hb0 : 0 ≤ b) (hb : b ≤ 1) :
    (callFunc 165 #[.int .u64 x, .int .u64 y, .int .u64 b]).run Tryz.prog w =
      .ok (.value (.tuple #[.int .u64 ((x - y - b) % 18446744073709551616), .int .u64 (if x < y + b then 1 else 0)])) w := by
  obtain ⟨x, rfl⟩ := Int.eq_ofNat_of_zero_le hx0
  obtain ⟨y, rfl⟩ := Int.eq_ofNat_of_zero_le hy0
  obtain ⟨b, rfl⟩ := Int.eq_ofNat_of_zero_le hb0
  rw [run_callFunc_extern Tryz.func165 (by kernel_rfl) (by kernel_rfl) (by kernel_rfl) (e := (Extern.MathBitsCarry.rows[1]'(by decide)).2) (by kernel_rfl), sub64_entry x y b (by omega)]
  simp only [Result.andThen]
  have e1 : (((x + 18446744073709551616 - y - b) % 18446744073709551616 : Nat) : Int) = ((x : Int) - y - b) % 18446744073709551616 := by omega
  have e2 : (((if x < y + b then 1 else 0 : Nat)) : Int) = (if (x : Int) < y + b then 1 else 0) := by split <;> split <;> omega
  rw [e1, e2]

theorem len_fin (x y B : Int) (b : Nat) (hB : B = (b : Int)) (hb : b ≤ 56) (hy : y.toNat = x.toNat / 2 ^ b) (h : b = 0 ∨ y.toNat ≠ 0) (h256 : y.toNat < 256) :
    wrap64 (B + wrap64 (bitLen y.toNat)) = bitLen x.toNat := by
  have l := bitLen_le8 y.toNat h256
  have e : bitLen x.toNat = b + bitLen y.toNat := by
    rcases h with rfl | h
    · rw [hy]; simp
    · rw [hy] at h ⊢; exact bitLen_shift _ _ h
  rw [e, hB]
  unfold wrap64
  omega

set_option maxRecDepth 100000 in
set_option maxHeartbeats 1000000 in
theorem len64_any (x : Int) (w : World) (hx0 : 0 ≤ x) (hx : x < 18446744073709551616) :
    Calls Tryz.prog 169 #[.int .u64 x] w fun e w' => e = .returned (.int .i64 (bitLen x.toNat)) ∧ w' = w := by
  go_enter Tryz.func169, Tryz.ntmps169
  go_wp2
  all_goals (go_ret; refine ⟨congrArg Ending.returned (congrArg (Value.int IntKind.i64) ?_), rfl⟩; rw [len8tab_get])
  · exact len_fin x _ _ 56 rfl (by omega) (by omega) (Or.inr (by omega)) (by omega)
  · exact len_fin x _ _ 48 rfl (by omega) (by omega) (Or.inr (by omega)) (by omega)
  · exact len_fin x _ _ 40 rfl (by omega) (by omega) (Or.inr (by omega)) (by omega)
  · exact len_fin x _ _ 32 rfl (by omega) (by omega) (Or.inr (by omega)) (by omega)
  · exact len_fin x _ _ 24 rfl (by omega) (by omega) (Or.inr (by omega)) (by omega)
  · exact len_fin x _ _ 16 rfl (by omega) (by omega) (Or.inr (by omega)) (by omega)
  · exact len_fin x _ _ 8 rfl (by omega) (by omega) (Or.inr (by omega)) (by omega)
  · simpa using len_fin x x 0 0 rfl (by omega) (by simp) (Or.inl rfl) (by omega)

theorem bitLen_le64 (x : Int) (hx0 : 0 ≤ x) (hx : x < 18446744073709551616) : bitLen x.toNat ≤ 64 := by
  by_cases h : x.toNat = 0
  · rw [h]; decide
  · have := (bitLen_spec x.toNat).2 h
    by_cases g : bitLen x.toNat ≤ 64
    · exact g
    · exfalso
      have := Nat.pow_le_pow_right (n := 2) (by omega) (show 64 ≤ bitLen x.toNat - 1 by omega)
      omega

theorem lz64_any (x : Int) (w : World) (hx0 : 0 ≤ x) (hx : x < 18446744073709551616) :
    Calls Tryz.prog 166 #[.int .u64 x] w fun e w' => e = .returned (.int .i64 (64 - (bitLen x.toNat : Int))) ∧ w' = w := by
  have l := bitLen_le64 x hx0 hx
  go_enter Tryz.func166, Tryz.ntmps166
  go_wp2_with (go_at_call 169; refine (len64_any x _ hx0 hx).mono ?_; rintro e w' ⟨rfl, rfl⟩)
  go_ret
  exact ⟨rfl, rfl⟩
end Go.Proofs.YtbhdfjoagajipaaGreat
