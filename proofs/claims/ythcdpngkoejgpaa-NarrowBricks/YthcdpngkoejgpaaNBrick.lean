/- Plain mathematics of layer 9: two bricks are told apart by their parts. -/
import Derived.Test.YthcdpngkoejgpaaNMath
import Derived.Test.YthcdpngkoejgpaaShJ
import Derived.Test.YthcdpngkoejgpaaPsA
namespace Go.Proofs.Ythcdpngkoejgpaa
set_option linter.unusedVariables false
set_option linter.unusedSimpArgs false

/-- What is told is one of the candidates, and none goes further. -/
theorem best_some (g : Pt → Int) : ∀ (L : List Pt) (m : Pt), ∃ n, bestL g (some (m, g m)) L = some (n, g n) ∧ (n = m ∨ n ∈ L) ∧ g m ≤ g n ∧ ∀ k ∈ L, g k ≤ g n
  | [], m => ⟨m, rfl, Or.inl rfl, Int.le_refl _, fun k hk => by cases hk⟩
  | p :: L, m => by
    by_cases h : g m < g p
    · obtain ⟨n, e, hm, h1, h2⟩ := best_some g L p
      refine ⟨n, ?_, ?_, by omega, fun k hk => ?_⟩
      · unfold bestL at e ⊢
        rw [List.foldl_cons]
        show List.foldl (bestS g) (if g m < g p then some (p, g p) else some (m, g m)) L = _
        rw [if_pos h]
        exact e
      · rcases hm with rfl | hm
        · exact Or.inr (List.mem_cons_self ..)
        · exact Or.inr (List.mem_cons_of_mem _ hm)
      · rcases List.mem_cons.1 hk with rfl | hk
        · exact h1
        · exact h2 k hk
    · obtain ⟨n, e, hm, h1, h2⟩ := best_some g L m
      refine ⟨n, ?_, ?_, h1, fun k hk => ?_⟩
      · unfold bestL at e ⊢
        rw [List.foldl_cons]
        show List.foldl (bestS g) (if g m < g p then some (p, g p) else some (m, g m)) L = _
        rw [if_neg h]
        exact e
      · rcases hm with rfl | hm
        · exact Or.inl rfl
        · exact Or.inr (List.mem_cons_of_mem _ hm)
      · rcases List.mem_cons.1 hk with rfl | hk
        · omega
        · exact h2 k hk
theorem best_max (g : Pt → Int) (p : Pt) (L : List Pt) : ∃ n, bestL g none (p :: L) = some (n, g n) ∧ n ∈ p :: L ∧ ∀ k ∈ p :: L, g k ≤ g n := by
  obtain ⟨n, e, hm, h1, h2⟩ := best_some g L p
  refine ⟨n, e, ?_, fun k hk => ?_⟩
  · rcases hm with rfl | hm
    · exact List.mem_cons_self ..
    · exact List.mem_cons_of_mem _ hm
  · rcases List.mem_cons.1 hk with rfl | hk
    · exact h1
    · exact h2 k hk

/-- The straight directions, made long. -/
theorem lng_low {p : Pt} (h : p.inB 1048576 = true) (h1 : p.low.low = p) (h2 : p ≠ Pt.O) : p.lng = lngF 20 p := by
  have e : p.short = p := by
    unfold Pt.short
    rw [if_pos (inB_mono h (by decide))]
    unfold Pt.half
    rw [halveF_id _ _ (Pt.low_in h), h1]
  unfold Pt.lng
  rw [e, if_neg h2]
theorem lng_straight : Pt.lng ⟨1, 0, 0⟩ = ⟨1048576, 0, 0⟩ ∧ Pt.lng ⟨0, 1, 0⟩ = ⟨0, 1048576, 0⟩ ∧ Pt.lng ⟨0, 0, 1⟩ = ⟨0, 0, 1048576⟩ ∧ Pt.lng ⟨-1, 0, 0⟩ = ⟨-1048576, 0, 0⟩ ∧ Pt.lng ⟨0, -1, 0⟩ = ⟨0, -1048576, 0⟩ ∧ Pt.lng ⟨0, 0, -1⟩ = ⟨0, 0, -1048576⟩ ∧ Pt.lng ⟨0, 0, 0⟩ = Pt.O := by
  refine ⟨?_, ?_, ?_, ?_, ?_, ?_, ?_⟩
  · rw [lng_low (by decide) (by decide) (by decide)]; simp [lngF, Pt.inB, Pt.dbl]
  · rw [lng_low (by decide) (by decide) (by decide)]; simp [lngF, Pt.inB, Pt.dbl]
  · rw [lng_low (by decide) (by decide) (by decide)]; simp [lngF, Pt.inB, Pt.dbl]
  · rw [lng_low (by decide) (by decide) (by decide)]; simp [lngF, Pt.inB, Pt.dbl]
  · rw [lng_low (by decide) (by decide) (by decide)]; simp [lngF, Pt.inB, Pt.dbl]
  · rw [lng_low (by decide) (by decide) (by decide)]; simp [lngF, Pt.inB, Pt.dbl]
  · unfold Pt.lng
    rw [show (⟨0, 0, 0⟩ : Pt) = Pt.O from rfl, short_O, if_pos rfl]
def sixL : List Pt := [⟨1048576, 0, 0⟩, ⟨-1048576, 0, 0⟩, ⟨0, 1048576, 0⟩, ⟨0, -1048576, 0⟩, ⟨0, 0, 1048576⟩, ⟨0, 0, -1048576⟩]
theorem both_straight : both straightP = sixL := by
  obtain ⟨h1, h2, h3, _⟩ := lng_straight
  unfold straightP both
  rw [h1, if_neg (by decide)]
  unfold both
  rw [h2, if_neg (by decide)]
  unfold both
  rw [h3, if_neg (by decide)]
  rfl
theorem both_cross : ∀ n ∈ both (crossL straightP straightP), n ∈ sixL := by
  obtain ⟨h1, h2, h3, h4, h5, h6, h7⟩ := lng_straight
  have e : crossL straightP straightP = [⟨0, 0, 0⟩, ⟨0, 0, 1⟩, ⟨0, -1, 0⟩, ⟨0, 0, -1⟩, ⟨0, 0, 0⟩, ⟨1, 0, 0⟩, ⟨0, 1, 0⟩, ⟨-1, 0, 0⟩, ⟨0, 0, 0⟩] := by decide
  rw [e]
  simp only [both, h1, h2, h3, h4, h5, h6, h7]
  decide
theorem cand_bricks (p : Pt) (Q : List Pt) (hQ : Q.length = 8) : ∃ L, both (candL ⟨cornersP p, straightP, straightP, 0⟩ ⟨Q, straightP, straightP, 0⟩) = ⟨1048576, 0, 0⟩ :: L ∧ (∀ n ∈ (⟨1048576, 0, 0⟩ : Pt) :: L, n ∈ sixL) ∧ ∀ n ∈ sixL, n ∈ (⟨1048576, 0, 0⟩ : Pt) :: L := by
  have e : candL ⟨cornersP p, straightP, straightP, 0⟩ ⟨Q, straightP, straightP, 0⟩ = straightP ++ (straightP ++ crossL straightP straightP) := by
    unfold candL wayL
    rw [if_pos ⟨by show 2 < (cornersP p).length; exact (by decide : 2 < 8), by show 2 < Q.length; omega⟩]
    simp
  rw [e, both_app, both_app, both_straight]
  refine ⟨_, rfl, fun n hn => ?_, fun n hn => ?_⟩
  · have hn : n ∈ sixL ++ (sixL ++ both (crossL straightP straightP)) := hn
    rcases List.mem_append.1 hn with h | h
    · exact h
    · rcases List.mem_append.1 h with h | h
      · exact h
      · exact both_cross n h
  · show n ∈ sixL ++ (sixL ++ both (crossL straightP straightP))
    exact List.mem_append_left _ hn
theorem dn_xx (m : Int) (h : 0 ≤ m) : dn ⟨m, 0, 0⟩ = m ∧ dn ⟨-m, 0, 0⟩ = m ∧ up ⟨m, 0, 0⟩ = m ∧ up ⟨-m, 0, 0⟩ = m := by
  have e1 : Pt.dot ⟨m, 0, 0⟩ ⟨m, 0, 0⟩ = m * m := by unfold Pt.dot; dsimp only; omega
  have e2 : Pt.dot ⟨-m, 0, 0⟩ ⟨-m, 0, 0⟩ = m * m := by unfold Pt.dot; dsimp only; rw [Int.neg_mul_neg]; omega
  have h3 : m * m < (m + 1) * (m + 1) := by rw [Int.add_mul, Int.mul_add]; omega
  have d1 : dn ⟨m, 0, 0⟩ = m := (dn_of (n := ⟨m, 0, 0⟩) h (by rw [e1]; exact Int.le_refl _) (by rw [e1]; exact h3)).symm
  have d2 : dn ⟨-m, 0, 0⟩ = m := (dn_of (n := ⟨-m, 0, 0⟩) h (by rw [e2]; exact Int.le_refl _) (by rw [e2]; exact h3)).symm
  exact ⟨d1, d2, by unfold up; rw [d1, e1, if_pos rfl], by unfold up; rw [d2, e2, if_pos rfl]⟩
theorem dn_y (m : Int) (h : 0 ≤ m) : dn ⟨0, m, 0⟩ = m ∧ dn ⟨0, -m, 0⟩ = m ∧ up ⟨0, m, 0⟩ = m ∧ up ⟨0, -m, 0⟩ = m := by
  have e1 : Pt.dot ⟨0, m, 0⟩ ⟨0, m, 0⟩ = m * m := by unfold Pt.dot; dsimp only; omega
  have e2 : Pt.dot ⟨0, -m, 0⟩ ⟨0, -m, 0⟩ = m * m := by unfold Pt.dot; dsimp only; rw [Int.neg_mul_neg]; omega
  have h3 : m * m < (m + 1) * (m + 1) := by rw [Int.add_mul, Int.mul_add]; omega
  have d1 : dn ⟨0, m, 0⟩ = m := (dn_of (n := ⟨0, m, 0⟩) h (by rw [e1]; exact Int.le_refl _) (by rw [e1]; exact h3)).symm
  have d2 : dn ⟨0, -m, 0⟩ = m := (dn_of (n := ⟨0, -m, 0⟩) h (by rw [e2]; exact Int.le_refl _) (by rw [e2]; exact h3)).symm
  exact ⟨d1, d2, by unfold up; rw [d1, e1, if_pos rfl], by unfold up; rw [d2, e2, if_pos rfl]⟩
theorem dn_z (m : Int) (h : 0 ≤ m) : dn ⟨0, 0, m⟩ = m ∧ dn ⟨0, 0, -m⟩ = m ∧ up ⟨0, 0, m⟩ = m ∧ up ⟨0, 0, -m⟩ = m := by
  have e1 : Pt.dot ⟨0, 0, m⟩ ⟨0, 0, m⟩ = m * m := by unfold Pt.dot; dsimp only; omega
  have e2 : Pt.dot ⟨0, 0, -m⟩ ⟨0, 0, -m⟩ = m * m := by unfold Pt.dot; dsimp only; rw [Int.neg_mul_neg]; omega
  have h3 : m * m < (m + 1) * (m + 1) := by rw [Int.add_mul, Int.mul_add]; omega
  have d1 : dn ⟨0, 0, m⟩ = m := (dn_of (n := ⟨0, 0, m⟩) h (by rw [e1]; exact Int.le_refl _) (by rw [e1]; exact h3)).symm
  have d2 : dn ⟨0, 0, -m⟩ = m := (dn_of (n := ⟨0, 0, -m⟩) h (by rw [e2]; exact Int.le_refl _) (by rw [e2]; exact h3)).symm
  exact ⟨d1, d2, by unfold up; rw [d1, e1, if_pos rfl], by unfold up; rw [d2, e2, if_pos rfl]⟩
theorem gap_unit {n : Pt} {P Q : List Pt} {k : Int} (hr : room n P Q = 1048576 * k) (hd : dn n = 1048576) (hu : up n = 1048576) : gapZ P Q 0 0 n = k := by
  unfold gapZ gap0
  rw [hr, hd, hu]
  split
  · rw [Int.tdiv_eq_ediv_of_nonneg (by omega)]; omega
  · rw [Int.tdiv_eq_ediv_of_nonneg (by omega)]; omega
def movedC (q d : Pt) : List Pt := [⟨-q.x + d.x, -q.y + d.y, -q.z + d.z⟩, ⟨-q.x + d.x, -q.y + d.y, q.z + d.z⟩, ⟨-q.x + d.x, q.y + d.y, -q.z + d.z⟩, ⟨-q.x + d.x, q.y + d.y, q.z + d.z⟩, ⟨q.x + d.x, -q.y + d.y, -q.z + d.z⟩, ⟨q.x + d.x, -q.y + d.y, q.z + d.z⟩, ⟨q.x + d.x, q.y + d.y, -q.z + d.z⟩, ⟨q.x + d.x, q.y + d.y, q.z + d.z⟩]
structure Brk (p : Pt) : Prop where
  x : 1 ≤ p.x ∧ p.x ≤ 1000
  y : 1 ≤ p.y ∧ p.y ≤ 1000
  z : 1 ≤ p.z ∧ p.z ≤ 1000
theorem room_x {p q d : Pt} (hp : Brk p) (hq : Brk q) : room ⟨1048576, 0, 0⟩ (cornersP p) (movedC q d) = 1048576 * (d.x - p.x - q.x) ∧ room ⟨-1048576, 0, 0⟩ (cornersP p) (movedC q d) = 1048576 * (-d.x - p.x - q.x) := by
  have := hp.x; have := hq.x
  unfold room loP hiP cornersP movedC
  simp only [List.length_cons, List.length_nil, loK, hiK, pt, Pt.dot, Int.zero_mul, Int.add_zero, Int.zero_add, List.getElem?_cons_zero, List.getElem?_cons_succ, Option.getD_some, Nat.zero_add, Nat.reduceAdd, Nat.reduceSub]
  try simp only [Int.min_self, Int.max_self]
  constructor <;> omega
theorem room_y {p q d : Pt} (hp : Brk p) (hq : Brk q) : room ⟨0, 1048576, 0⟩ (cornersP p) (movedC q d) = 1048576 * (d.y - p.y - q.y) ∧ room ⟨0, -1048576, 0⟩ (cornersP p) (movedC q d) = 1048576 * (-d.y - p.y - q.y) := by
  have := hp.y; have := hq.y
  unfold room loP hiP cornersP movedC
  simp only [List.length_cons, List.length_nil, loK, hiK, pt, Pt.dot, Int.zero_mul, Int.add_zero, Int.zero_add, List.getElem?_cons_zero, List.getElem?_cons_succ, Option.getD_some, Nat.zero_add, Nat.reduceAdd, Nat.reduceSub]
  try simp only [Int.min_self, Int.max_self]
  constructor <;> omega
theorem room_z {p q d : Pt} (hp : Brk p) (hq : Brk q) : room ⟨0, 0, 1048576⟩ (cornersP p) (movedC q d) = 1048576 * (d.z - p.z - q.z) ∧ room ⟨0, 0, -1048576⟩ (cornersP p) (movedC q d) = 1048576 * (-d.z - p.z - q.z) := by
  have := hp.z; have := hq.z
  unfold room loP hiP cornersP movedC
  simp only [List.length_cons, List.length_nil, loK, hiK, pt, Pt.dot, Int.zero_mul, Int.add_zero, Int.zero_add, List.getElem?_cons_zero, List.getElem?_cons_succ, Option.getD_some, Nat.zero_add, Nat.reduceAdd, Nat.reduceSub]
  try simp only [Int.min_self, Int.max_self]
  constructor <;> omega
/-- What is told of two bricks that stand straight. -/
theorem brick_told {p q d : Pt} (hp : Brk p) (hq : Brk q) : (told ⟨cornersP p, straightP, straightP, 0⟩ ⟨movedC q d, straightP, straightP, 0⟩).2 = max (max d.x (-d.x) - p.x - q.x) (max (max d.y (-d.y) - p.y - q.y) (max d.z (-d.z) - p.z - q.z)) := by
  obtain ⟨L, hL, hin, hall⟩ := cand_bricks p (movedC q d) rfl
  obtain ⟨n, e, hn, hmax⟩ := best_max (gapZ (cornersP p) (movedC q d) 0 0) ⟨1048576, 0, 0⟩ L
  have ht : told ⟨cornersP p, straightP, straightP, 0⟩ ⟨movedC q d, straightP, straightP, 0⟩ = (n, gapZ (cornersP p) (movedC q d) 0 0 n) := by
    rw [← hL] at e
    unfold told
    rw [show bestL (gapZ (Cr.mk (cornersP p) straightP straightP 0).P (Cr.mk (movedC q d) straightP straightP 0).P (Cr.mk (cornersP p) straightP straightP 0).r (Cr.mk (movedC q d) straightP straightP 0).r) none (both (candL ⟨cornersP p, straightP, straightP, 0⟩ ⟨movedC q d, straightP, straightP, 0⟩)) = _ from e]
  rw [ht]
  obtain ⟨x1, x2, x3, x4⟩ := dn_xx 1048576 (by omega)
  obtain ⟨y1, y2, y3, y4⟩ := dn_y 1048576 (by omega)
  obtain ⟨z1, z2, z3, z4⟩ := dn_z 1048576 (by omega)
  have g1 := gap_unit (room_x (d := d) hp hq).1 x1 x3
  have g2 := gap_unit (room_x (d := d) hp hq).2 x2 x4
  have g3 := gap_unit (room_y (d := d) hp hq).1 y1 y3
  have g4 := gap_unit (room_y (d := d) hp hq).2 y2 y4
  have g5 := gap_unit (room_z (d := d) hp hq).1 z1 z3
  have g6 := gap_unit (room_z (d := d) hp hq).2 z2 z4
  have m1 := hmax _ (hall ⟨1048576, 0, 0⟩ (by decide))
  have m2 := hmax _ (hall ⟨-1048576, 0, 0⟩ (by decide))
  have m3 := hmax _ (hall ⟨0, 1048576, 0⟩ (by decide))
  have m4 := hmax _ (hall ⟨0, -1048576, 0⟩ (by decide))
  have m5 := hmax _ (hall ⟨0, 0, 1048576⟩ (by decide))
  have m6 := hmax _ (hall ⟨0, 0, -1048576⟩ (by decide))
  have h6 := hin n hn
  rw [g1] at m1
  rw [g2] at m2
  rw [g3] at m3
  rw [g4] at m4
  rw [g5] at m5
  rw [g6] at m6
  show gapZ (cornersP p) (movedC q d) 0 0 n = _
  have hv : gapZ (cornersP p) (movedC q d) 0 0 n = d.x - p.x - q.x ∨ gapZ (cornersP p) (movedC q d) 0 0 n = -d.x - p.x - q.x ∨ gapZ (cornersP p) (movedC q d) 0 0 n = d.y - p.y - q.y ∨ gapZ (cornersP p) (movedC q d) 0 0 n = -d.y - p.y - q.y ∨ gapZ (cornersP p) (movedC q d) 0 0 n = d.z - p.z - q.z ∨ gapZ (cornersP p) (movedC q d) 0 0 n = -d.z - p.z - q.z := by
    unfold sixL at h6
    simp only [List.mem_cons, List.not_mem_nil, or_false] at h6
    rcases h6 with rfl | rfl | rfl | rfl | rfl | rfl
    · exact Or.inl g1
    · exact Or.inr (Or.inl g2)
    · exact Or.inr (Or.inr (Or.inl g3))
    · exact Or.inr (Or.inr (Or.inr (Or.inl g4)))
    · exact Or.inr (Or.inr (Or.inr (Or.inr (Or.inl g5))))
    · exact Or.inr (Or.inr (Or.inr (Or.inr (Or.inr g6))))
  generalize gapZ (cornersP p) (movedC q d) 0 0 n = gg at *
  clear g1 g2 g3 g4 g5 g6 x1 x2 x3 x4 y1 y2 y3 y4 z1 z2 z3 z4 ht e hmax hall hin hn h6 hL
  omega
structure Mvd (d : Pt) : Prop where
  x : -3000 ≤ d.x ∧ d.x ≤ 3000
  y : -3000 ≤ d.y ∧ d.y ≤ 3000
  z : -3000 ≤ d.z ∧ d.z ≤ 3000
theorem may_brick {p : Pt} (hp : Brk p) : mayC ⟨cornersP p, straightP, straightP, 0⟩ = true := by
  have hi : ∀ a ∈ cornersP p, a.inB 16777216 = true := fun a ha => by
    unfold cornersP at ha
    simp only [List.mem_cons, List.not_mem_nil, or_false] at ha
    have := hp.x; have := hp.y; have := hp.z
    rw [Pt.inB_iff]
    rcases ha with rfl | rfl | rfl | rfl | rfl | rfl | rfl | rfl <;> dsimp only <;> omega
  have h1 : (cornersP p).all (·.inB 16777216) = true := List.all_eq_true.2 hi
  have h2 : straightP.all (·.inB 1048576) = true := by decide
  unfold mayC
  dsimp only
  rw [h1, h2]
  rfl
theorem may_moved {q d : Pt} (hq : Brk q) (hd : Mvd d) : mayC ⟨movedC q d, straightP, straightP, 0⟩ = true := by
  have hi : ∀ a ∈ movedC q d, a.inB 16777216 = true := fun a ha => by
    unfold movedC at ha
    simp only [List.mem_cons, List.not_mem_nil, or_false] at ha
    have := hq.x; have := hq.y; have := hq.z
    have := hd.x; have := hd.y; have := hd.z
    rw [Pt.inB_iff]
    rcases ha with rfl | rfl | rfl | rfl | rfl | rfl | rfl | rfl <;> dsimp only <;> omega
  have h1 : (movedC q d).all (·.inB 16777216) = true := List.all_eq_true.2 hi
  have h2 : straightP.all (·.inB 1048576) = true := by decide
  unfold mayC
  dsimp only
  rw [h1, h2]
  rfl
theorem corners_plus {q d : Pt} (hq : Brk q) (hd : Mvd d) : (cornersP q).map (fun p => p.plus d) = movedC q d := by
  have e : ∀ a b : Int, -1000 ≤ a ∧ a ≤ 1000 → -3000 ≤ b ∧ b ≤ 3000 → IntKind.i64.wrap (a + b) = a + b := fun a b h1 h2 => by rw [IntKind.wrap_i64]; omega
  have := hq.x; have := hq.y; have := hq.z
  unfold cornersP movedC Pt.plus
  simp only [List.map_cons, List.map_nil]
  rw [e _ _ (by omega) hd.x, e _ _ (by omega) hd.x, e _ _ (by omega) hd.y, e _ _ (by omega) hd.y, e _ _ (by omega) hd.z, e _ _ (by omega) hd.z]
theorem brick_check {p : Pt} (hp : Brk p) : checkP ⟨3, 0, p, []⟩ = 0 := by
  have := hp.x; have := hp.y; have := hp.z
  unfold checkP
  rw [if_pos (by unfold formP; simp [inR, halfOk]; omega)]
  simp
theorem brick_lists (p : Pt) : ptsP ⟨3, 0, p, []⟩ = cornersP p ∧ axesP ⟨3, 0, p, []⟩ = straightP ∧ edgesP ⟨3, 0, p, []⟩ = straightP := ⟨rfl, rfl, rfl⟩
end Go.Proofs.Ythcdpngkoejgpaa
