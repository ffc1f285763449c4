/- Points of grains in memory: lists of them that are read, and lists of the call's own. -/
import Derived.RangeFuncBox
import Derived.Shelf.Abstract
import Derived.WalkKit
import Derived.OwnWalkIn
import Derived.TacticsInMore
import Derived.LoopNIn
import Derived.LoopIn
import Derived.LoopTactic
import Derived.ProofKit
import Derived.Handy
import Derived.Laws.MakeOwn
import Derived.Laws.OwnMore
import Derived.Maps.AppendAt
import Derived.Deep.RegionWith
import Derived.Deep.QuietTactic
import Derived.BigQuiet
import Derived.Deep.CutBlock
import Derived.Deep.CutRange
import Derived.Deep.LoopGhost
import Derived.Lib.SmallJoins
import Derived.Test.YtompnibhfdkkjaaGreatSPPlace0
import Derived.Test.YtompnibhfdkkjaaGreatProg
namespace Go.Proofs.YtompnibhfdkkjaaGreat
open Go.RowKit Go.Shelf
set_option linter.unusedVariables false

def Pt.v (p : Pt) : Value := .agg #[.int .i64 p.x, .int .i64 p.y, .int .i64 p.z]
def fl3 : List Pt → List Value
  | [] => []
  | p :: r => .int .i64 p.x :: .int .i64 p.y :: .int .i64 p.z :: fl3 r
theorem fl3_length : ∀ L : List Pt, (fl3 L).length = L.length * 3
  | [] => rfl
  | p :: r => by simp only [fl3, List.length_cons, fl3_length r]; omega
theorem fl3_append : ∀ A B : List Pt, fl3 (A ++ B) = fl3 A ++ fl3 B
  | [], B => rfl
  | p :: r, B => by simp [fl3, fl3_append r B]
theorem fl3_at : ∀ (L : List Pt) (i : Nat), i < L.length → (fl3 L)[i * 3]? = some (.int .i64 (L[i]?.getD default).x) ∧ (fl3 L)[i * 3 + 1]? = some (.int .i64 (L[i]?.getD default).y) ∧ (fl3 L)[i * 3 + 2]? = some (.int .i64 (L[i]?.getD default).z)
  | [], i, h => by simp at h
  | p :: r, 0, _ => ⟨rfl, rfl, rfl⟩
  | p :: r, i + 1, h => by
    have := fl3_at r i (by simpa using h)
    rw [show (i + 1) * 3 = i * 3 + 3 by omega]
    simpa [fl3] using this
theorem fl3_one (L : List Pt) : ∀ u ∈ fl3 L, u.oneCell' = true := by
  induction L with
  | nil => intro u hu; cases hu
  | cons p r ih =>
    intro u hu
    simp only [fl3, List.mem_cons] at hu
    rcases hu with rfl | rfl | rfl | hu
    · rfl
    · rfl
    · rfl
    · exact ih u hu
theorem point_info : (Tryz.prog.info? 31).map (fun i => (i.zero, i.size, i.bytes)) = some (some (.agg #[.int .i64 0, .int .i64 0, .int .i64 0]), 3, 24) := by kernel_rfl

theorem b_step {w w1 w2 : World} (h1 : Below w.heap.size w w1) (h2 : Below w1.heap.size w1 w2) : Below w.heap.size w w2 := h1.trans (h2.mono h1.size)
theorem c_after {w w1 : World} {p : Addr} {v : Value} (hb : Below w.heap.size w w1) (hc : w.cell? p = some v) : w1.cell? p = some v := (hb.cell (World.block_lt_of_cell? _ _ hc)).trans hc
theorem n_after (w : World) (o : Obj) : Below w.heap.size w (w.alloc o) := (Below.refl _ _).alloc (Nat.le_refl _) _

theorem f_after {w w1 : World} {p : Addr} {v : Value} (hb : Below w.heap.size w w1) (hc : w.cell? p = some v) (hf : w.frozen? p = false) : w1.frozen? p = false := (hb.frozen (World.block_lt_of_cell? _ _ hc)).trans hf
theorem early9 {p : Bool} {X Y : Prop} (h : (p = false ∧ X) ∨ (p = true ∧ Y)) (hp : p = false) : X := by
  rcases h with h | h
  · exact h.2
  · rw [hp] at h; cases h.1
theorem late9 {p : Bool} {X Y : Prop} (h : (p = false ∧ X) ∨ (p = true ∧ Y)) (hp : p = true) : Y := by
  rcases h with h | h
  · rw [hp] at h; cases h.1
  · exact h.2
theorem w64 {n : Int} (h1 : -9223372036854775808 ≤ n) (h2 : n ≤ 9223372036854775807) : wrap64 n = n := by unfold wrap64; omega

/-- A point's box. -/
structure Box3 (W : World) (b : Nat) (q : Pt) : Prop where
  c0 : W.cell? ⟨b, 0, none⟩ = some (.int .i64 q.x)
  c1 : W.cell? ⟨b, 1, none⟩ = some (.int .i64 q.y)
  c2 : W.cell? ⟨b, 2, none⟩ = some (.int .i64 q.z)
  f0 : W.frozen? ⟨b, 0, none⟩ = false
  f1 : W.frozen? ⟨b, 1, none⟩ = false
  f2 : W.frozen? ⟨b, 2, none⟩ = false
theorem Box3.step {A B : World} {b : Nat} {q : Pt} (h : Box3 A b q) (hb : Below A.heap.size A B) : Box3 B b q :=
  ⟨c_after hb h.c0, c_after hb h.c1, c_after hb h.c2, f_after hb h.c0 h.f0, f_after hb h.c1 h.f1, f_after hb h.c2 h.f2⟩
theorem Box3.lt {W : World} {b : Nat} {q : Pt} (h : Box3 W b q) : b < W.heap.size := World.block_lt_of_cell? _ _ h.c0
theorem Box3.new (w : World) (x y z : Int) (t : TypeId) : Box3 (w.alloc (.cells #[.int .i64 x, .int .i64 y, .int .i64 z] t)) w.heap.size ⟨x, y, z⟩ :=
  ⟨by simp, by simp, by simp, by simp [go_sem], by simp [go_sem], by simp [go_sem]⟩
def set3 (W : World) (b : Nat) (x y z : Int) : World := ((W.setCell ⟨b, 0, none⟩ (.int .i64 x)).setCell ⟨b, 1, none⟩ (.int .i64 y)).setCell ⟨b, 2, none⟩ (.int .i64 z)
theorem Box3.set {W : World} {b : Nat} {q : Pt} (h : Box3 W b q) (x y z : Int) : Box3 (set3 W b x y z) b ⟨x, y, z⟩ := by
  obtain ⟨c0, c1, c2, f0, f1, f2⟩ := h
  unfold set3
  exact ⟨by simp [go_sem, c0], by simp [go_sem, c1], by simp [go_sem, c2], by simp [go_sem, f0], by simp [go_sem, f1], by simp [go_sem, f2]⟩
theorem Box3.other {W : World} {b b' : Nat} {q : Pt} (h : Box3 W b q) (hne : b' ≠ b) (x y z : Int) : Box3 (set3 W b' x y z) b q := by
  obtain ⟨c0, c1, c2, f0, f1, f2⟩ := h
  unfold set3
  have hne' : ¬ b = b' := fun e => hne e.symm
  exact ⟨by simp [go_sem, c0], by simp [go_sem, c1], by simp [go_sem, c2], by simp [go_sem, f0], by simp [go_sem, f1], by simp [go_sem, f2]⟩
theorem set3_below {n : Nat} {w W : World} {b : Nat} (h : Below n w W) (hb : n ≤ b) (x y z : Int) : Below n w (set3 W b x y z) := ((h.setCell hb _).setCell hb _).setCell hb _
theorem set3_size (W : World) (b : Nat) (x y z : Int) : (set3 W b x y z).heap.size = W.heap.size := by simp [set3, World.setCell]

/-- A list of points that can be read. -/
structure Lies (W : World) (v : Value) (L : List Pt) : Prop where
  form : ∃ o cap, v = .slice o L.length cap ∧ L.length ≤ cap ∧ cap ≤ 9223372036854775807 ∧ ∀ i, i < L.length → ∃ g off, o = some ⟨g, off, none⟩ ∧ W.cell? ⟨g, off + i * 3, none⟩ = some (.int .i64 (pt L i).x) ∧ W.cell? ⟨g, off + i * 3 + 1, none⟩ = some (.int .i64 (pt L i).y) ∧ W.cell? ⟨g, off + i * 3 + 2, none⟩ = some (.int .i64 (pt L i).z)
theorem Lies.of_row {W : World} {base : Nat} {v : Value} {L : List Pt} (h : W.ownsRow base 31 3 v L.length (fl3 L)) : Lies W v L := by
  refine ⟨?_⟩
  rcases h.2 with ⟨rfl, h0⟩ | ⟨g, cap, cur, rfl, hb, hg, h1, h2, h3, h4⟩
  · exact ⟨none, 0, by rw [h0], by omega, by omega, fun i hi => by omega⟩
  · refine ⟨_, cap, rfl, h1, by unfold maxLen at h2; omega, fun i hi => ⟨g, 0, rfl, ?_, ?_, ?_⟩⟩
    · rw [Nat.zero_add]; exact (h.cellAt (i * 3) (by omega)).trans (fl3_at L i hi).1
    · rw [Nat.zero_add]; exact (h.cellAt (i * 3 + 1) (by omega)).trans (fl3_at L i hi).2.1
    · rw [Nat.zero_add]; exact (h.cellAt (i * 3 + 2) (by omega)).trans (fl3_at L i hi).2.2
theorem Lies.below {w W : World} {v : Value} {L : List Pt} (h : Lies w v L) (hb : Below w.heap.size w W) : Lies W v L := by
  obtain ⟨o, cap, e, h1, h2, h3⟩ := h.form
  refine ⟨o, cap, e, h1, h2, fun i hi => ?_⟩
  obtain ⟨g, off, e, a, b, c⟩ := h3 i hi
  exact ⟨g, off, e, c_after hb a, c_after hb b, c_after hb c⟩
theorem Lies.cells {w : World} {v : Value} {L : List Pt} (h : Lies w v L) : ∃ o cap, v = .slice o L.length cap ∧ L.length ≤ cap ∧ cap ≤ 9223372036854775807 ∧ (L = [] ∨ ∃ g off, o = some ⟨g, off, none⟩ ∧ ∀ j u, (fl3 L)[j]? = some u → w.cell? ⟨g, off + j, none⟩ = some u) := by
  obtain ⟨o, cap, e, h1, h2, h3⟩ := h.form
  refine ⟨o, cap, e, h1, h2, ?_⟩
  by_cases h0 : L.length = 0
  · exact Or.inl (List.length_eq_zero_iff.1 h0)
  · right
    obtain ⟨g, off, rfl, _⟩ := h3 0 (by omega)
    refine ⟨g, off, rfl, fun j u hj => ?_⟩
    have hl : j < L.length * 3 := by rw [← fl3_length]; exact (List.getElem?_eq_some_iff.1 hj).1
    obtain ⟨a0, a1, a2⟩ := fl3_at L (j / 3) (by omega)
    obtain ⟨g', off', e', b0, b1, b2⟩ := h3 (j / 3) (by omega)
    simp only [Option.some.injEq, Addr.mk.injEq, and_true] at e'
    obtain ⟨rfl, rfl⟩ := e'
    have : j % 3 = 0 ∨ j % 3 = 1 ∨ j % 3 = 2 := by omega
    rcases this with e | e | e
    · have ej : j / 3 * 3 = j := by omega
      rw [ej] at a0 b0
      rw [a0] at hj
      rw [← hj]; exact b0
    · have ej : j / 3 * 3 + 1 = j := by omega
      rw [ej] at a1
      rw [show off + j / 3 * 3 + 1 = off + j by omega] at b1
      rw [a1] at hj
      rw [← hj]; exact b1
    · have ej : j / 3 * 3 + 2 = j := by omega
      rw [ej] at a2
      rw [show off + j / 3 * 3 + 2 = off + j by omega] at b2
      rw [a2] at hj
      rw [← hj]; exact b2
/-- A list of the call's own. -/
structure Row (w V : World) (u : Value) (M : List Pt) : Prop where
  row : V.ownsRow w.heap.size 31 3 u M.length (fl3 M)
  below : Below w.heap.size w V
theorem Row.lies {w V : World} {u : Value} {M : List Pt} (h : Row w V u M) : Lies V u M := Lies.of_row h.row
theorem news_at {w : World} {vb : Nat} {x y z : Value} {t : TypeId} (h : w.heap[vb]? = some (.cells #[x, y, z] t (0, 0))) : ∀ j u, [x, y, z][j]? = some u → w.cell? ((⟨vb, 0, none⟩ : Addr).add j) = some u := by
  intro j u hj
  have ad : (⟨vb, 0, none⟩ : Addr).add j = ⟨vb, j, none⟩ := by unfold Addr.add; split <;> simp_all
  rw [ad]
  match j, hj with
  | 0, hj => simp at hj; subst hj; simp [World.cell?, h]
  | 1, hj => simp at hj; subst hj; simp [World.cell?, h]
  | 2, hj => simp at hj; subst hj; simp [World.cell?, h]
theorem below_grown {w W : World} (h : Below w.heap.size w W) (row : Option Nat) : w.grownBy W row := ⟨h.os, h.tape, h.output, h.size, fun k hk _ => h.block k hk⟩
theorem own_below {A W : World} {base : Nat} {t : TypeId} {sz n : Nat} {u : Value} {xs : List Value} (h : A.ownsRow base t sz u n xs) (hb : Below A.heap.size A W) : W.ownsRow base t sz u n xs := by
  cases e : u.ownBlock with
  | none => exact h.kept (below_grown hb none) (Or.inl e)
  | some k => exact h.kept (below_grown hb none) (Or.inr (by rw [e]; simp))
/-- What a call does that appends to the list u. -/
structure Grew (w W : World) (u u' : Value) : Prop where
  grown : w.grownBy W u.ownBlock
  same : u'.ownBlock = u.ownBlock ∨ ∃ k, u'.ownBlock = some k ∧ w.heap.size ≤ k
theorem Grew.refl (w : World) (u : Value) : Grew w w u u := ⟨below_grown (Below.refl _ _) _, Or.inl rfl⟩
theorem Grew.below {w W : World} (hb : Below w.heap.size w W) (u : Value) : Grew w W u u := ⟨below_grown hb _, Or.inl rfl⟩
theorem Grew.trans {w W X : World} {u v x : Value} (h : Grew w W u v) (k : Grew W X v x) : Grew w X u x := by
  obtain ⟨h1, h2⟩ := h
  obtain ⟨k1, k2⟩ := k
  refine ⟨⟨k1.os.trans h1.os, k1.tape.trans h1.tape, k1.output.trans h1.output, Nat.le_trans h1.size k1.size, fun i hi hn => ?_⟩, ?_⟩
  · refine (k1.block i (Nat.lt_of_lt_of_le hi h1.size) ?_).trans (h1.block i hi hn)
    rcases h2 with e | ⟨j, e, hj⟩
    · rw [e]; exact hn
    · rw [e]; intro e'; cases e'; omega
  · rcases k2 with e | ⟨j, e, hj⟩
    · rw [e]
      rcases h2 with e | ⟨j, e, hj⟩
      · exact Or.inl e
      · exact Or.inr ⟨j, e, hj⟩
    · exact Or.inr ⟨j, e, Nat.le_trans h1.size hj⟩
theorem Grew.on {w0 w W : World} {u u' : Value} {base : Nat} {t : TypeId} {sz n : Nat} {xs : List Value} (h : Grew w W u u') (hb : Below base w0 w) (ho : w.ownsRow base t sz u n xs) (hB : base ≤ w.heap.size) : Below base w0 W := hb.grown h.grown hB (fun k e => (ho.lt k e).1)
/-- A list beside the one that grew. -/
theorem Grew.beside {w W : World} {u u' x : Value} {base : Nat} {t : TypeId} {sz n : Nat} {xs : List Value} (h : Grew w W u u') (ho : w.ownsRow base t sz x n xs) (hne : ∀ k, x.ownBlock = some k → u.ownBlock ≠ some k) :
    W.ownsRow base t sz x n xs ∧ ∀ k, x.ownBlock = some k → u'.ownBlock ≠ some k := by
  refine ⟨?_, fun k e e' => ?_⟩
  · cases e : x.ownBlock with
    | none => exact ho.kept h.grown (Or.inl e)
    | some k => exact ho.kept h.grown (Or.inr (by rw [e]; exact fun e' => hne k e e'.symm))
  · rcases h.same with s | ⟨j, s, hj⟩
    · rw [s] at e'; exact hne k e e'
    · rw [s] at e'; cases e'; have := (ho.lt k e).2; omega
end Go.Proofs.YtompnibhfdkkjaaGreat
namespace Go.Proofs.YtompnibhfdkkjaaGreat
set_option linter.unusedVariables false

/-- Six times the volume between four points. -/
def vol (p q r s : Pt) : Int := ((q.sub p).cross (r.sub p)).dot (s.sub p)
def flatP (L : List Pt) : Bool := L.all fun c => L.all fun m => decide (vol (pt L 0) (pt L 1) c m = 0)
/-! A hull's sides. -/
def above (L : List Pt) (n a : Pt) : Bool := L.any fun m => decide (0 < n.dot (m.sub a))
def below (L : List Pt) (n a : Pt) : Bool := L.any fun m => decide (n.dot (m.sub a) < 0)
def withAxisP (A : List Pt) (n : Pt) : List Pt := if n ∈ A then A else A ++ [n]
def withEdgeP (E : List Pt) (e : Pt) : List Pt := if e.short ∈ E ∨ e.short.neg ∈ E then E else E ++ [e.short]
def withEdgesP (E : List Pt) (more : List Pt) : List Pt := more.foldl withEdgeP E
def triP (L : List Pt) (a b c : Pt) (s : List Pt × List Pt) : List Pt × List Pt :=
  let n := (b.sub a).cross (c.sub a)
  if n = Pt.O ∨ (above L n a = true ∧ below L n a = true) then s
  else (withAxisP s.1 (if above L n a then n.neg else n).short, withEdgesP s.2 [b.sub a, c.sub a, c.sub b])
def innerP (L : List Pt) (a b : Pt) : List Pt → List Pt × List Pt → List Pt × List Pt
  | [], s => s
  | c :: r, s => innerP L a b r (triP L a b c s)
def midP (L : List Pt) (a : Pt) : List Pt → List Pt × List Pt → List Pt × List Pt
  | [], s => s
  | b :: r, s => midP L a r (innerP L a b r s)
def outerP (L : List Pt) : List Pt → List Pt × List Pt → List Pt × List Pt
  | [], s => s
  | a :: r, s => outerP L r (midP L a r s)
def sidesP (L : List Pt) : List Pt × List Pt := outerP L L ([], [])
end Go.Proofs.YtompnibhfdkkjaaGreat
namespace Go.Proofs.YtompnibhfdkkjaaGreat
set_option linter.unusedVariables false

theorem mul_in {a b A B : Int} (ha : -A ≤ a ∧ a ≤ A) (hb : -B ≤ b ∧ b ≤ B) : -(A * B) ≤ a * b ∧ a * b ≤ A * B := by
  have h1 := Int.mul_nonneg (show 0 ≤ A - a by omega) (show 0 ≤ B - b by omega)
  have h2 := Int.mul_nonneg (show 0 ≤ A + a by omega) (show 0 ≤ B + b by omega)
  have h3 := Int.mul_nonneg (show 0 ≤ A - a by omega) (show 0 ≤ B + b by omega)
  have h4 := Int.mul_nonneg (show 0 ≤ A + a by omega) (show 0 ≤ B - b by omega)
  simp only [Int.mul_add, Int.add_mul, Int.mul_sub, Int.sub_mul] at h1 h2 h3 h4
  omega
theorem cross_in {p q : Pt} (hp : p.inB 131072 = true) (hq : q.inB 131072 = true) : (p.cross q).inB 34359738368 = true := by
  rw [Pt.inB_iff] at *
  unfold Pt.cross
  dsimp only
  obtain ⟨a1, a2, a3⟩ := hp
  obtain ⟨b1, b2, b3⟩ := hq
  have h1 := mul_in a2 b3
  have h2 := mul_in a3 b2
  have h3 := mul_in a3 b1
  have h4 := mul_in a1 b3
  have h5 := mul_in a1 b2
  have h6 := mul_in a2 b1
  omega
theorem sub_in {p q : Pt} {m : Int} (hp : p.inB m = true) (hq : q.inB m = true) : (p.sub q).inB (2 * m) = true := by
  rw [Pt.inB_iff] at *
  unfold Pt.sub
  dsimp only
  omega
end Go.Proofs.YtompnibhfdkkjaaGreat
namespace Go.Proofs.YtompnibhfdkkjaaGreat
open Go.RowKit Go.Shelf
set_option linter.unusedVariables false

theorem between_any (n a b : Int) (w : World) :
    Calls Tryz.prog 112 #[.int .i64 n, .int .i64 a, .int .i64 b] w fun e w' => e = .returned (.bool (decide (a ≤ n ∧ n ≤ b))) ∧ w' = w := by
  by_cases h1 : a ≤ n
  · go_enter Tryz.func112, Tryz.ntmps112
    go_wp2
    go_ret
    exact ⟨by simp [h1], rfl⟩
  · go_enter Tryz.func112, Tryz.ntmps112
    go_wp2
    go_ret
    exact ⟨by simp; omega, rfl⟩

set_option maxHeartbeats 1000000 in
theorem less_any (p q : Pt) (w : World) (hp : p.inB 1152921504606846976 = true) (hq : q.inB 1152921504606846976 = true) :
    Calls Tryz.prog 84 #[p.v, q.v] w fun e W => e = .returned (p.sub q).v ∧ Below w.heap.size w W := by
  obtain ⟨x, y, z⟩ := p
  obtain ⟨x', y', z'⟩ := q
  rw [Pt.inB_iff] at hp hq
  unfold Pt.v Pt.sub
  dsimp only at *
  go_enter Tryz.func84, Tryz.ntmps84
  go_wp2
  exact bodyPost_ret (v := .agg #[.int .i64 (x - x'), .int .i64 (y - y'), .int .i64 (z - z')]) (by simp [results, Tryz.results84, go_sem]) rfl ⟨rfl, (((Below.refl _ w).alloc (Nat.le_refl _) _).alloc (by simp) _).alloc (by simp; omega) _⟩
set_option maxHeartbeats 1000000 in
theorem back_any (p : Pt) (w : World) (hp : p.inB 1152921504606846976 = true) :
    Calls Tryz.prog 85 #[p.v] w fun e W => e = .returned p.neg.v ∧ Below w.heap.size w W := by
  obtain ⟨x, y, z⟩ := p
  rw [Pt.inB_iff] at hp
  unfold Pt.v Pt.neg
  dsimp only at *
  go_enter Tryz.func85, Tryz.ntmps85
  go_wp2
  exact bodyPost_ret (v := .agg #[.int .i64 (-x), .int .i64 (-y), .int .i64 (-z)]) (by simp [results, Tryz.results85, go_sem]) rfl ⟨rfl, (((((Below.refl _ w).alloc (Nat.le_refl _) _).alloc (by simp) _).alloc (by simp; omega) _).alloc (by simp; omega) _).alloc (by simp; omega) _⟩
theorem prod_in {x y A B : Int} (hx : -A ≤ x ∧ x ≤ A) (hy : -B ≤ y ∧ y ≤ B) (h : A * B ≤ 1152921504606846976) : -1152921504606846976 ≤ x * y ∧ x * y ≤ 1152921504606846976 := by
  have := mul_in hx hy
  omega
set_option maxHeartbeats 1000000 in
theorem dot_any (p q : Pt) (w : World) (hp : p.inB 34359738368 = true) (hq : q.inB 131072 = true) :
    Calls Tryz.prog 83 #[p.v, q.v] w fun e W => e = .returned (.int .i64 (p.dot q)) ∧ Below w.heap.size w W := by
  obtain ⟨x, y, z⟩ := p
  obtain ⟨x', y', z'⟩ := q
  rw [Pt.inB_iff] at hp hq
  unfold Pt.v Pt.dot
  dsimp only at *
  have h1 := prod_in hp.1 hq.1 (by decide)
  have h2 := prod_in hp.2.1 hq.2.1 (by decide)
  have h3 := prod_in hp.2.2 hq.2.2 (by decide)
  clear hp hq
  go_enter Tryz.func83, Tryz.ntmps83
  go_wp2
  go_ret
  exact ⟨rfl, ((Below.refl _ w).alloc (Nat.le_refl _) _).alloc (by simp) _⟩
set_option maxHeartbeats 1000000 in
theorem cross_any (p q : Pt) (w : World) (hp : p.inB 131072 = true) (hq : q.inB 131072 = true) :
    Calls Tryz.prog 115 #[p.v, q.v] w fun e W => e = .returned (p.cross q).v ∧ Below w.heap.size w W := by
  obtain ⟨x, y, z⟩ := p
  obtain ⟨x', y', z'⟩ := q
  rw [Pt.inB_iff] at hp hq
  unfold Pt.v Pt.cross
  dsimp only at *
  have h1 := prod_in hp.2.1 hq.2.2 (by decide)
  have h2 := prod_in hp.2.2 hq.2.1 (by decide)
  have h3 := prod_in hp.2.2 hq.1 (by decide)
  have h4 := prod_in hp.1 hq.2.2 (by decide)
  have h5 := prod_in hp.1 hq.2.1 (by decide)
  have h6 := prod_in hp.2.1 hq.1 (by decide)
  clear hp hq
  go_enter Tryz.func115, Tryz.ntmps115
  go_wp2
  refine bodyPost_ret (v := .agg #[.int .i64 (y * z' - z * y'), .int .i64 (z * x' - x * z'), .int .i64 (x * y' - y * x')]) ?_ rfl ⟨rfl, (((Below.refl _ w).alloc (Nat.le_refl _) _).alloc (by simp) _).alloc (by simp; omega) _⟩
  simp [results, Tryz.results115, go_sem]
set_option maxHeartbeats 4000000 in
set_option maxRecDepth 100000 in
theorem across_any (a b c : Pt) (w0 : World) (ha : a.inB 65536 = true) (hb : b.inB 65536 = true) (hc : c.inB 65536 = true) :
    Calls Tryz.prog 82 #[a.v, b.v, c.v] w0 fun e W => e = .returned ((b.sub a).cross (c.sub a)).v ∧ Below w0.heap.size w0 W := by
  have L1 : Hid _ := fun w' => less_any b a w' (inB_mono hb (by decide)) (inB_mono ha (by decide))
  have L2 : Hid _ := fun w' => less_any c a w' (inB_mono hc (by decide)) (inB_mono ha (by decide))
  have L3 : Hid _ := fun w' => cross_any (b.sub a) (c.sub a) w' (sub_in hb ha) (sub_in hc ha)
  clear ha hb hc
  obtain ⟨ax, ay, az⟩ := a
  obtain ⟨bx, by_, bz⟩ := b
  obtain ⟨cx, cy, cz⟩ := c
  unfold Pt.v Pt.sub Pt.cross at *
  dsimp only at *
  go_enter Tryz.func82, Tryz.ntmps82
  go_wp2_with (fail)
  obtain ⟨V, hV⟩ : ∃ V : World, V = ((((w0.alloc (.cells #[.int .i64 ax, .int .i64 ay, .int .i64 az] 31)).alloc (.cells #[.int .i64 bx, .int .i64 by_, .int .i64 bz] 31)).alloc (.cells #[.int .i64 cx, .int .i64 cy, .int .i64 cz] 31)).alloc (.cells #[.int .i64 0, .int .i64 0, .int .i64 0] 31)) := ⟨_, rfl⟩
  have hBV : Below w0.heap.size w0 V := by rw [hV]; exact (((((Below.refl _ w0).alloc (by simp; try omega) _).alloc (by simp; try omega) _).alloc (by simp; try omega) _).alloc (by simp; try omega) _)
  have V0_0 : V.cell? ⟨w0.heap.size, 0, none⟩ = some (.int .i64 ax) := by rw [hV]; simp [go_sem]
  have V0_1 : V.cell? ⟨w0.heap.size, 1, none⟩ = some (.int .i64 ay) := by rw [hV]; simp [go_sem]
  have V0_2 : V.cell? ⟨w0.heap.size, 2, none⟩ = some (.int .i64 az) := by rw [hV]; simp [go_sem]
  have V1_0 : V.cell? ⟨w0.heap.size + 1, 0, none⟩ = some (.int .i64 bx) := by rw [hV]; simp [go_sem]
  have V1_1 : V.cell? ⟨w0.heap.size + 1, 1, none⟩ = some (.int .i64 by_) := by rw [hV]; simp [go_sem]
  have V1_2 : V.cell? ⟨w0.heap.size + 1, 2, none⟩ = some (.int .i64 bz) := by rw [hV]; simp [go_sem]
  have V2_0 : V.cell? ⟨w0.heap.size + 1 + 1, 0, none⟩ = some (.int .i64 cx) := by rw [hV]; simp [go_sem]
  have V2_1 : V.cell? ⟨w0.heap.size + 1 + 1, 1, none⟩ = some (.int .i64 cy) := by rw [hV]; simp [go_sem]
  have V2_2 : V.cell? ⟨w0.heap.size + 1 + 1, 2, none⟩ = some (.int .i64 cz) := by rw [hV]; simp [go_sem]
  have V3_0 : V.cell? ⟨w0.heap.size + 1 + 1 + 1, 0, none⟩ = some (.int .i64 0) := by rw [hV]; simp [go_sem]
  have V3_1 : V.cell? ⟨w0.heap.size + 1 + 1 + 1, 1, none⟩ = some (.int .i64 0) := by rw [hV]; simp [go_sem]
  have V3_2 : V.cell? ⟨w0.heap.size + 1 + 1 + 1, 2, none⟩ = some (.int .i64 0) := by rw [hV]; simp [go_sem]
  have Vf3_0 : V.frozen? ⟨w0.heap.size + 1 + 1 + 1, 0, none⟩ = false := by rw [hV]; simp [go_sem]
  have Vf3_1 : V.frozen? ⟨w0.heap.size + 1 + 1 + 1, 1, none⟩ = false := by rw [hV]; simp [go_sem]
  have Vf3_2 : V.frozen? ⟨w0.heap.size + 1 + 1 + 1, 2, none⟩ = false := by rw [hV]; simp [go_sem]
  rw [← hV]
  clear hV
  refine RV.region_by (fun j v w => match j with | 0 => v = .agg #[.int .i64 (bx), .int .i64 (by_), .int .i64 (bz)] | 1 => v = .agg #[.int .i64 (ax), .int .i64 (ay), .int .i64 (az)] | 2 => v = .agg #[.int .i64 (bx - ax), .int .i64 (by_ - ay), .int .i64 (bz - az)] | 3 => v = .agg #[.int .i64 (cx), .int .i64 (cy), .int .i64 (cz)] | 4 => v = .agg #[.int .i64 (ax), .int .i64 (ay), .int .i64 (az)] | 5 => v = .agg #[.int .i64 (cx - ax), .int .i64 (cy - ay), .int .i64 (cz - az)] | 6 => v = .agg #[.int .i64 ((by_ - ay) * (cz - az) - (bz - az) * (cy - ay)), .int .i64 ((bz - az) * (cx - ax) - (bx - ax) * (cz - az)), .int .i64 ((bx - ax) * (cy - ay) - (by_ - ay) * (cx - ax))] | 7 => True | _ => True) (fun γ L w9 => (L 7 = false ∧ Below V.heap.size V w9) ∨ (L 7 = true ∧ ∃ w, Below V.heap.size V w ∧ w9 = (((w.setCell ⟨w0.heap.size + 1 + 1 + 1, 0, none⟩ (.int .i64 ((by_ - ay) * (cz - az) - (bz - az) * (cy - ay)))).setCell ⟨w0.heap.size + 1 + 1 + 1, 1, none⟩ (.int .i64 ((bz - az) * (cx - ax) - (bx - ax) * (cz - az)))).setCell ⟨w0.heap.size + 1 + 1 + 1, 2, none⟩ (.int .i64 ((bx - ax) * (cy - ay) - (by_ - ay) * (cx - ax)))))) (by kernel_rfl) (by kernel_rfl) (by kernel_rfl) (by kernel_rfl) ?_ ?_ ?_
  · exact Or.inl ⟨rfl, (Below.refl _ V).drew⟩
  · generalize hD : dstOf _ = D
    generalize hWA : waitsFor _ = WA
    generalize hZ : Act.mk _ _ = Z
    obtain ⟨R, hR⟩ : ∃ R : Nat → Value → World → Prop, R = (fun j v w => match j with | 0 => v = .agg #[.int .i64 (bx), .int .i64 (by_), .int .i64 (bz)] | 1 => v = .agg #[.int .i64 (ax), .int .i64 (ay), .int .i64 (az)] | 2 => v = .agg #[.int .i64 (bx - ax), .int .i64 (by_ - ay), .int .i64 (bz - az)] | 3 => v = .agg #[.int .i64 (cx), .int .i64 (cy), .int .i64 (cz)] | 4 => v = .agg #[.int .i64 (ax), .int .i64 (ay), .int .i64 (az)] | 5 => v = .agg #[.int .i64 (cx - ax), .int .i64 (cy - ay), .int .i64 (cz - az)] | 6 => v = .agg #[.int .i64 ((by_ - ay) * (cz - az) - (bz - az) * (cy - ay)), .int .i64 ((bz - az) * (cx - ax) - (bx - ax) * (cz - az)), .int .i64 ((bx - ax) * (cy - ay) - (by_ - ay) * (cx - ax))] | 7 => True | _ => True) := ⟨_, rfl⟩
    rw [← hR]
    have d0 : D 0 = some 7 := by rw [← hD]; rfl
    have d1 : D 1 = some 8 := by rw [← hD]; rfl
    have d2 : D 2 = some 9 := by rw [← hD]; rfl
    have d3 : D 3 = some 10 := by rw [← hD]; rfl
    have d4 : D 4 = some 11 := by rw [← hD]; rfl
    have d5 : D 5 = some 12 := by rw [← hD]; rfl
    have d6 : D 6 = some 13 := by rw [← hD]; rfl
    have r0 : ∀ v w, R 0 v w = (v = .agg #[.int .i64 (bx), .int .i64 (by_), .int .i64 (bz)]) := fun v w => by rw [hR]; rfl
    have r1 : ∀ v w, R 1 v w = (v = .agg #[.int .i64 (ax), .int .i64 (ay), .int .i64 (az)]) := fun v w => by rw [hR]; rfl
    have r2 : ∀ v w, R 2 v w = (v = .agg #[.int .i64 (bx - ax), .int .i64 (by_ - ay), .int .i64 (bz - az)]) := fun v w => by rw [hR]; rfl
    have r3 : ∀ v w, R 3 v w = (v = .agg #[.int .i64 (cx), .int .i64 (cy), .int .i64 (cz)]) := fun v w => by rw [hR]; rfl
    have r4 : ∀ v w, R 4 v w = (v = .agg #[.int .i64 (ax), .int .i64 (ay), .int .i64 (az)]) := fun v w => by rw [hR]; rfl
    have r5 : ∀ v w, R 5 v w = (v = .agg #[.int .i64 (cx - ax), .int .i64 (cy - ay), .int .i64 (cz - az)]) := fun v w => by rw [hR]; rfl
    have r6 : ∀ v w, R 6 v w = (v = .agg #[.int .i64 ((by_ - ay) * (cz - az) - (bz - az) * (cy - ay)), .int .i64 ((bz - az) * (cx - ax) - (bx - ax) * (cz - az)), .int .i64 ((bx - ax) * (cy - ay) - (by_ - ay) * (cx - ax))]) := fun v w => by rw [hR]; rfl
    have r7 : ∀ v w, R 7 v w = (True) := fun v w => by rw [hR]; rfl
    have E3 : ∀ (γ : Nat → Value) (L : Nat → Bool) (a : Act) (w : World), RV.Held D WA R (fun γ L w9 => (L 7 = false ∧ Below V.heap.size V w9) ∨ (L 7 = true ∧ ∃ w, Below V.heap.size V w ∧ w9 = (((w.setCell ⟨w0.heap.size + 1 + 1 + 1, 0, none⟩ (.int .i64 ((by_ - ay) * (cz - az) - (bz - az) * (cy - ay)))).setCell ⟨w0.heap.size + 1 + 1 + 1, 1, none⟩ (.int .i64 ((bz - az) * (cx - ax) - (bx - ax) * (cz - az)))).setCell ⟨w0.heap.size + 1 + 1 + 1, 2, none⟩ (.int .i64 ((bx - ax) * (cy - ay) - (by_ - ay) * (cx - ax)))))) Z γ L a w → a.tmps[3]? = some (.pointer (some ⟨w0.heap.size, 0, none⟩)) := fun γ L a w hH => (hH.rest 3 (by rw [← hD]; exact RV.dst_free (by kernel_rfl))).trans (by rw [← hZ]; rfl)
    have E4 : ∀ (γ : Nat → Value) (L : Nat → Bool) (a : Act) (w : World), RV.Held D WA R (fun γ L w9 => (L 7 = false ∧ Below V.heap.size V w9) ∨ (L 7 = true ∧ ∃ w, Below V.heap.size V w ∧ w9 = (((w.setCell ⟨w0.heap.size + 1 + 1 + 1, 0, none⟩ (.int .i64 ((by_ - ay) * (cz - az) - (bz - az) * (cy - ay)))).setCell ⟨w0.heap.size + 1 + 1 + 1, 1, none⟩ (.int .i64 ((bz - az) * (cx - ax) - (bx - ax) * (cz - az)))).setCell ⟨w0.heap.size + 1 + 1 + 1, 2, none⟩ (.int .i64 ((bx - ax) * (cy - ay) - (by_ - ay) * (cx - ax)))))) Z γ L a w → a.tmps[4]? = some (.pointer (some ⟨w0.heap.size + 1, 0, none⟩)) := fun γ L a w hH => (hH.rest 4 (by rw [← hD]; exact RV.dst_free (by kernel_rfl))).trans (by rw [← hZ]; rfl)
    have E5 : ∀ (γ : Nat → Value) (L : Nat → Bool) (a : Act) (w : World), RV.Held D WA R (fun γ L w9 => (L 7 = false ∧ Below V.heap.size V w9) ∨ (L 7 = true ∧ ∃ w, Below V.heap.size V w ∧ w9 = (((w.setCell ⟨w0.heap.size + 1 + 1 + 1, 0, none⟩ (.int .i64 ((by_ - ay) * (cz - az) - (bz - az) * (cy - ay)))).setCell ⟨w0.heap.size + 1 + 1 + 1, 1, none⟩ (.int .i64 ((bz - az) * (cx - ax) - (bx - ax) * (cz - az)))).setCell ⟨w0.heap.size + 1 + 1 + 1, 2, none⟩ (.int .i64 ((bx - ax) * (cy - ay) - (by_ - ay) * (cx - ax)))))) Z γ L a w → a.tmps[5]? = some (.pointer (some ⟨w0.heap.size + 1 + 1, 0, none⟩)) := fun γ L a w hH => (hH.rest 5 (by rw [← hD]; exact RV.dst_free (by kernel_rfl))).trans (by rw [← hZ]; rfl)
    have E6 : ∀ (γ : Nat → Value) (L : Nat → Bool) (a : Act) (w : World), RV.Held D WA R (fun γ L w9 => (L 7 = false ∧ Below V.heap.size V w9) ∨ (L 7 = true ∧ ∃ w, Below V.heap.size V w ∧ w9 = (((w.setCell ⟨w0.heap.size + 1 + 1 + 1, 0, none⟩ (.int .i64 ((by_ - ay) * (cz - az) - (bz - az) * (cy - ay)))).setCell ⟨w0.heap.size + 1 + 1 + 1, 1, none⟩ (.int .i64 ((bz - az) * (cx - ax) - (bx - ax) * (cz - az)))).setCell ⟨w0.heap.size + 1 + 1 + 1, 2, none⟩ (.int .i64 ((bx - ax) * (cy - ay) - (by_ - ay) * (cx - ax)))))) Z γ L a w → a.tmps[6]? = some (.pointer (some ⟨w0.heap.size + 1 + 1 + 1, 0, none⟩)) := fun γ L a w hH => (hH.rest 6 (by rw [← hD]; exact RV.dst_free (by kernel_rfl))).trans (by rw [← hZ]; rfl)
    have K : ∀ j v w w', R j v w → R j v w' := by rw [hR]; intro j v w w' h; exact h
    have A_7_0 : WA 7 0 := by rw [← hWA]; exact ⟨_, rfl, ⟨0, .phase⟩, by simp, rfl, rfl⟩
    have A_7_1 : WA 7 1 := by rw [← hWA]; exact ⟨_, rfl, ⟨1, .phase⟩, by simp, rfl, rfl⟩
    have A_7_2 : WA 7 2 := by rw [← hWA]; exact ⟨_, rfl, ⟨2, .phase⟩, by simp, rfl, rfl⟩
    have A_7_3 : WA 7 3 := by rw [← hWA]; exact ⟨_, rfl, ⟨3, .phase⟩, by simp, rfl, rfl⟩
    have A_7_4 : WA 7 4 := by rw [← hWA]; exact ⟨_, rfl, ⟨4, .phase⟩, by simp, rfl, rfl⟩
    have A_7_5 : WA 7 5 := by rw [← hWA]; exact ⟨_, rfl, ⟨5, .phase⟩, by simp, rfl, rfl⟩
    have A_7_6 : WA 7 6 := by rw [← hWA]; exact ⟨_, rfl, ⟨6, .phase⟩, by simp, rfl, rfl⟩
    clear hD hWA hZ hR
    refine RV.AllDo.cons 0 (RV.does_pure (fun γ v L w hl h => by rw [RV.more_ne (L := L) (i := 0) (j := 7) (by decide)]; exact h) (fun γ L a w hH hl hA => by have e0 := E4 γ L a w hH; have hB9 := early9 hH.glob (RV.not_yet hH A_7_0 hl); have z0 := c_after hB9 V1_0; have z1 := c_after hB9 V1_1; have z2 := c_after hB9 V1_2; exact ⟨.agg #[.int .i64 (bx), .int .i64 (by_), .int .i64 (bz)], by simp [execOp, go_sem, e0, z0, z1, z2], (r0 _ _).mpr rfl⟩)) ?_
    refine RV.AllDo.cons 1 (RV.does_pure (fun γ v L w hl h => by rw [RV.more_ne (L := L) (i := 1) (j := 7) (by decide)]; exact h) (fun γ L a w hH hl hA => by have e0 := E3 γ L a w hH; have hB9 := early9 hH.glob (RV.not_yet hH A_7_1 hl); have z0 := c_after hB9 V0_0; have z1 := c_after hB9 V0_1; have z2 := c_after hB9 V0_2; exact ⟨.agg #[.int .i64 (ax), .int .i64 (ay), .int .i64 (az)], by simp [execOp, go_sem, e0, z0, z1, z2], (r1 _ _).mpr rfl⟩)) ?_
    refine RV.AllDo.cons 2 (RV.does_call (fun γ L a w hH hl hA => by have l0 : L 0 = true := hA ⟨0, .data⟩ (by simp) rfl; have e0 := hH.slot 0 7 d0 l0; have g0 := hH.holds 0 l0; rw [r0] at g0; rw [g0] at e0; have l1 : L 1 = true := hA ⟨1, .data⟩ (by simp) rfl; have e1 := hH.slot 1 8 d1 l1; have g1 := hH.holds 1 l1; rw [r1] at g1; rw [g1] at e1; have hB9 := early9 hH.glob (RV.not_yet hH A_7_2 hl); exact ⟨84, #[.agg #[.int .i64 (bx), .int .i64 (by_), .int .i64 (bz)], .agg #[.int .i64 (ax), .int .i64 (ay), .int .i64 (az)]], by simp [go_sem, e0, e1], Calls.mono (L1.out w) (by rintro e w2 ⟨rfl, hb⟩; exact ⟨_, rfl, (r2 _ _).mpr rfl, fun j v _ h => K j v _ _ h, Or.inl ⟨by rw [RV.more_ne (L := L) (i := 2) (j := 7) (by decide)]; exact RV.not_yet hH A_7_2 hl, hB9.trans (hb.mono hB9.size)⟩⟩)⟩)) ?_
    refine RV.AllDo.cons 3 (RV.does_pure (fun γ v L w hl h => by rw [RV.more_ne (L := L) (i := 3) (j := 7) (by decide)]; exact h) (fun γ L a w hH hl hA => by have e0 := E5 γ L a w hH; have hB9 := early9 hH.glob (RV.not_yet hH A_7_3 hl); have z0 := c_after hB9 V2_0; have z1 := c_after hB9 V2_1; have z2 := c_after hB9 V2_2; exact ⟨.agg #[.int .i64 (cx), .int .i64 (cy), .int .i64 (cz)], by simp [execOp, go_sem, e0, z0, z1, z2], (r3 _ _).mpr rfl⟩)) ?_
    refine RV.AllDo.cons 4 (RV.does_pure (fun γ v L w hl h => by rw [RV.more_ne (L := L) (i := 4) (j := 7) (by decide)]; exact h) (fun γ L a w hH hl hA => by have e0 := E3 γ L a w hH; have hB9 := early9 hH.glob (RV.not_yet hH A_7_4 hl); have z0 := c_after hB9 V0_0; have z1 := c_after hB9 V0_1; have z2 := c_after hB9 V0_2; exact ⟨.agg #[.int .i64 (ax), .int .i64 (ay), .int .i64 (az)], by simp [execOp, go_sem, e0, z0, z1, z2], (r4 _ _).mpr rfl⟩)) ?_
    refine RV.AllDo.cons 5 (RV.does_call (fun γ L a w hH hl hA => by have l0 : L 3 = true := hA ⟨3, .data⟩ (by simp) rfl; have e0 := hH.slot 3 10 d3 l0; have g0 := hH.holds 3 l0; rw [r3] at g0; rw [g0] at e0; have l1 : L 4 = true := hA ⟨4, .data⟩ (by simp) rfl; have e1 := hH.slot 4 11 d4 l1; have g1 := hH.holds 4 l1; rw [r4] at g1; rw [g1] at e1; have hB9 := early9 hH.glob (RV.not_yet hH A_7_5 hl); exact ⟨84, #[.agg #[.int .i64 (cx), .int .i64 (cy), .int .i64 (cz)], .agg #[.int .i64 (ax), .int .i64 (ay), .int .i64 (az)]], by simp [go_sem, e0, e1], Calls.mono (L2.out w) (by rintro e w2 ⟨rfl, hb⟩; exact ⟨_, rfl, (r5 _ _).mpr rfl, fun j v _ h => K j v _ _ h, Or.inl ⟨by rw [RV.more_ne (L := L) (i := 5) (j := 7) (by decide)]; exact RV.not_yet hH A_7_5 hl, hB9.trans (hb.mono hB9.size)⟩⟩)⟩)) ?_
    refine RV.AllDo.cons 6 (RV.does_call (fun γ L a w hH hl hA => by have l0 : L 2 = true := hA ⟨2, .data⟩ (by simp) rfl; have e0 := hH.slot 2 9 d2 l0; have g0 := hH.holds 2 l0; rw [r2] at g0; rw [g0] at e0; have l1 : L 5 = true := hA ⟨5, .data⟩ (by simp) rfl; have e1 := hH.slot 5 12 d5 l1; have g1 := hH.holds 5 l1; rw [r5] at g1; rw [g1] at e1; have hB9 := early9 hH.glob (RV.not_yet hH A_7_6 hl); exact ⟨115, #[.agg #[.int .i64 (bx - ax), .int .i64 (by_ - ay), .int .i64 (bz - az)], .agg #[.int .i64 (cx - ax), .int .i64 (cy - ay), .int .i64 (cz - az)]], by simp [go_sem, e0, e1], Calls.mono (L3.out w) (by rintro e w2 ⟨rfl, hb⟩; exact ⟨_, rfl, (r6 _ _).mpr rfl, fun j v _ h => K j v _ _ h, Or.inl ⟨by rw [RV.more_ne (L := L) (i := 6) (j := 7) (by decide)]; exact RV.not_yet hH A_7_6 hl, hB9.trans (hb.mono hB9.size)⟩⟩)⟩)) ?_
    refine RV.AllDo.cons 7 (RV.does_store (fun γ L a w hH hl hA => by have e0 := E6 γ L a w hH; have l1 : L 6 = true := hA ⟨6, .data⟩ (by simp) rfl; have e1 := hH.slot 6 13 d6 l1; have g1 := hH.holds 6 l1; rw [r6] at g1; rw [g1] at e1; have hB9 := early9 hH.glob hl; have z0 := c_after hB9 V3_0; have zf0 := f_after hB9 V3_0 Vf3_0; have z1 := c_after hB9 V3_1; have zf1 := f_after hB9 V3_1 Vf3_1; have z2 := c_after hB9 V3_2; have zf2 := f_after hB9 V3_2 Vf3_2; exact ⟨(((w.setCell ⟨w0.heap.size + 1 + 1 + 1, 0, none⟩ (.int .i64 ((by_ - ay) * (cz - az) - (bz - az) * (cy - ay)))).setCell ⟨w0.heap.size + 1 + 1 + 1, 1, none⟩ (.int .i64 ((bz - az) * (cx - ax) - (bx - ax) * (cz - az)))).setCell ⟨w0.heap.size + 1 + 1 + 1, 2, none⟩ (.int .i64 ((bx - ax) * (cy - ay) - (by_ - ay) * (cx - ax)))), by simp [execOp, go_sem, e0, e1, z0, zf0, z1, zf1, z2, zf2], (r7 _ _).mpr trivial, fun j v _ h => K j v _ _ h, Or.inr ⟨RV.more_self, w, hB9, rfl⟩⟩)) ?_
    exact RV.AllDo.nil
  · intro γ a5 w5 L9 hL hLo hH
    have ha := RV.held_act hH hL (by kernel_rfl) (by kernel_rfl)
    obtain ⟨w8, hb8, rfl⟩ := late9 hH.glob (hL 7 (by decide))
    have y0 : γ 0 = .agg #[.int .i64 (bx), .int .i64 (by_), .int .i64 (bz)] := hH.holds 0 (hL 0 (by decide))
    have y1 : γ 1 = .agg #[.int .i64 (ax), .int .i64 (ay), .int .i64 (az)] := hH.holds 1 (hL 1 (by decide))
    have y2 : γ 2 = .agg #[.int .i64 (bx - ax), .int .i64 (by_ - ay), .int .i64 (bz - az)] := hH.holds 2 (hL 2 (by decide))
    have y3 : γ 3 = .agg #[.int .i64 (cx), .int .i64 (cy), .int .i64 (cz)] := hH.holds 3 (hL 3 (by decide))
    have y4 : γ 4 = .agg #[.int .i64 (ax), .int .i64 (ay), .int .i64 (az)] := hH.holds 4 (hL 4 (by decide))
    have y5 : γ 5 = .agg #[.int .i64 (cx - ax), .int .i64 (cy - ay), .int .i64 (cz - az)] := hH.holds 5 (hL 5 (by decide))
    have y6 : γ 6 = .agg #[.int .i64 ((by_ - ay) * (cz - az) - (bz - az) * (cy - ay)), .int .i64 ((bz - az) * (cx - ax) - (bx - ax) * (cz - az)), .int .i64 ((bx - ax) * (cy - ay) - (by_ - ay) * (cx - ax))] := hH.holds 6 (hL 6 (by decide))
    rw [ha]
    clear ha hH hL hLo
    simp only [RV.putAll, Act.put, List.setIfInBounds_toArray, List.set_cons_zero, List.set_cons_succ, Nat.zero_add, Nat.reduceAdd, y0, y1, y2, y3, y4, y5, y6]
    clear y0 y1 y2 y3 y4 y5 y6
    have q0 := c_after hb8 V3_0
    have q1 := c_after hb8 V3_1
    have q2 := c_after hb8 V3_2
    go_wp2
    refine bodyPost_ret (v := .agg #[.int .i64 ((by_ - ay) * (cz - az) - (bz - az) * (cy - ay)), .int .i64 ((bz - az) * (cx - ax) - (bx - ax) * (cz - az)), .int .i64 ((bx - ax) * (cy - ay) - (by_ - ay) * (cx - ax))]) (by simp [results, Tryz.results82, go_sem, q0, q1, q2]) rfl ⟨rfl, ?_⟩
    exact ((((hBV.trans (hb8.mono hBV.size)).setCell (by simp; omega) _).setCell (by simp; omega) _).setCell (by simp; omega) _)
set_option maxHeartbeats 1000000 in
theorem divided_any (p : Pt) (n : Int) (w : World) (hp : p.inB 1152921504606846976 = true) (hn : 0 < n) (hn' : n ≤ 1152921504606846976):
    Calls Tryz.prog 119 #[p.v, .int .i64 n] w fun e W => e = .returned (p.by n).v ∧ Below w.heap.size w W := by
  obtain ⟨x, y, z⟩ := p
  rw [Pt.inB_iff] at hp
  unfold Pt.v Pt.by
  dsimp only at *
  go_enter Tryz.func119, Tryz.ntmps119
  go_wp2
  go_region
  go_wp2
  exact bodyPost_ret (v := .agg #[.int .i64 (x.tdiv n), .int .i64 (y.tdiv n), .int .i64 (z.tdiv n)]) (by simp [results, Tryz.results119, go_sem]) rfl ⟨rfl, (((Below.refl _ w).alloc (Nat.le_refl _) _).alloc (by simp) _).drew⟩
set_option maxHeartbeats 1000000 in
theorem within_any (p : Pt) (m : Int) (w : World) (hm : 0 ≤ m) (hm' : m ≤ 1152921504606846976) :
    Calls Tryz.prog 117 #[p.v, .int .i64 m] w fun e W => e = .returned (.bool (p.inB m)) ∧ Below w.heap.size w W := by
  obtain ⟨x, y, z⟩ := p
  have HE : Hid (∀ b : Bool, (b = true ↔ (-m ≤ x ∧ x ≤ m) ∧ (-m ≤ y ∧ y ≤ m) ∧ (-m ≤ z ∧ z ≤ m)) → Pt.inB ⟨x, y, z⟩ m = b) := fun b h => by
    rw [Bool.eq_iff_iff, h, Pt.inB_iff]
  unfold Pt.v
  go_enter Tryz.func117, Tryz.ntmps117
  go_wp2
  all_goals
    go_ret
    exact ⟨congrArg (fun b => Ending.returned (.bool b)) (HE.out _ ⟨fun h => by first | (cases h; done) | omega | (have h' := of_decide_eq_true h; omega), fun h => by first | rfl | (exfalso; omega) | exact decide_eq_true (by omega)⟩).symm, n_after w _⟩
theorem gcd_step {x y : Int} (h : y ≠ 0) : Nat.gcd y.natAbs (x.tmod y).natAbs = Nat.gcd x.natAbs y.natAbs := by
  rw [Int.natAbs_tmod, Nat.gcd_comm x.natAbs, Nat.gcd_rec y.natAbs x.natAbs, Nat.gcd_comm]
theorem tmod_lt {x y : Int} (h : y ≠ 0) : (x.tmod y).natAbs < y.natAbs := by
  rw [Int.natAbs_tmod]; exact Nat.mod_lt _ (by omega)
set_option maxHeartbeats 1000000 in
theorem gcd_any (a b : Int) (w : World) (ha : -1152921504606846976 ≤ a ∧ a ≤ 1152921504606846976) (hb : -1152921504606846976 ≤ b ∧ b ≤ 1152921504606846976) :
    Calls Tryz.prog 132 #[.int .i64 a, .int .i64 b] w fun e W => e = .returned (.int .i64 (Nat.gcd a.natAbs b.natAbs : Nat)) ∧ Below w.heap.size w W := by
  go_enter Tryz.func132, Tryz.ntmps132
  go_wp2
  go_loopw [0, 1] (fun s t wr => ∃ x y : Int, s = .int .i64 x ∧ t = .int .i64 y ∧ (-1152921504606846976 ≤ x ∧ x ≤ 1152921504606846976) ∧ (-1152921504606846976 ≤ y ∧ y ≤ 1152921504606846976) ∧ Hid (Nat.gcd x.natAbs y.natAbs = Nat.gcd a.natAbs b.natAbs) ∧ Hid (Below w.heap.size w wr)) (fun _ t _ => (intOf t).natAbs)
  case atStart => exact ⟨a, b, rfl, rfl, ha, hb, rfl, Below.refl _ _⟩
  case round =>
    obtain ⟨x, y, rfl, rfl, hx, hy, HG, HB⟩ := hrel
    by_cases h0 : y = 0
    · subst h0
      have HE : Hid (((Nat.gcd a.natAbs b.natAbs : Nat) : Int) = if x < -x then -x else x) := by
        show _ = _
        rw [← HG.out]
        simp only [Int.natAbs_zero, Nat.gcd_zero_right]
        split <;> omega
      clear HG
      rcases Int.lt_trichotomy x 0 with h | h | h
      · go_wp2
        go_ret
        refine ⟨?_, HB.out⟩
        rw [HE.out]
        exact congrArg (fun n => Ending.returned (.int .i64 n)) (by rw [if_pos (by omega)])
      · subst h
        go_wp2
        go_ret
        exact ⟨by rw [HE.out]; rfl, HB.out⟩
      · go_wp2
        go_ret
        refine ⟨?_, HB.out⟩
        rw [HE.out]
        exact congrArg (fun n => Ending.returned (.int .i64 n)) (by rw [if_neg (by omega)])
    · have HS : Hid _ := gcd_step (x := x) h0
      have hlt := tmod_lt (x := x) h0
      go_wp2
      go_region
      go_wp2
      go_roundw
      case rel => exact ⟨y, x.tmod y, rfl, rfl, hy, by omega, HS.out.trans HG.out, HB.out.drew⟩
      case measure => exact hlt
end Go.Proofs.YtompnibhfdkkjaaGreat
