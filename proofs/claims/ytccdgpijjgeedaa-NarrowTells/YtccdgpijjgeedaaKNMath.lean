/- Plain mathematics of layer 9: long directions, sizes, gaps, candidates. No program in sight. -/
import Derived.Test.YtccdgpijjgeedaaKSMath
import Derived.Test.YtccdgpijjgeedaaKBits
namespace Go.Proofs.Ytccdgpijjgeedaa
open Fx (isq isq_is isq_of)
set_option linter.unusedVariables false

def Pt.dbl (p : Pt) : Pt := ⟨2 * p.x, 2 * p.y, 2 * p.z⟩
def lngF : Nat → Pt → Pt
  | 0, p => p
  | n + 1, p => if p.inB 524288 then lngF n p.dbl else p
def Pt.lng (p : Pt) : Pt := if p.short = Pt.O then Pt.O else lngF 20 p.short
def Pt.far (p : Pt) (n : Nat) : Prop := 2 ^ n ≤ p.x.natAbs ∨ 2 ^ n ≤ p.y.natAbs ∨ 2 ^ n ≤ p.z.natAbs
theorem far_lt {q : Pt} {g : Nat} (hq : q.inB 524288 = true) (hb : q.far (20 - g)) : 1 ≤ g := by
  rw [Pt.inB_iff] at hq
  rcases Nat.eq_zero_or_pos g with rfl | h
  · unfold Pt.far at hb
    simp only [Nat.sub_zero, Nat.reducePow] at hb
    omega
  · exact h
theorem pow_two (n : Nat) : 2 ^ (n + 1) = 2 * 2 ^ n := by rw [Nat.pow_succ, Nat.mul_comm]
theorem far_dbl {q : Pt} {n : Nat} (hb : q.far n) : q.dbl.far (n + 1) := by
  unfold Pt.far Pt.dbl at *
  dsimp only
  rw [pow_two]
  have := hb
  generalize 2 ^ n = m at *
  omega
theorem far_zero {q : Pt} (h : q ≠ Pt.O) : q.far 0 := by
  unfold Pt.far
  simp only [Nat.pow_zero]
  by_cases hx : q.x = 0
  · by_cases hy : q.y = 0
    · by_cases hz : q.z = 0
      · exact absurd (by cases q; simp only [Pt.O] at *; simp [hx, hy, hz]) h
      · omega
    · omega
  · omega
theorem lngF_step {q : Pt} {g : Nat} (hq : q.inB 524288 = true) : lngF (g + 1) q = lngF g q.dbl := by simp [lngF, hq]
theorem lngF_stop {q : Pt} {g : Nat} (hq : q.inB 524288 = false) : lngF g q = q := by cases g <;> simp [lngF, hq]
theorem dbl_in {q : Pt} (h : q.inB 524288 = true) : q.dbl.inB 1048576 = true := by
  rw [Pt.inB_iff] at h ⊢
  unfold Pt.dbl
  dsimp only
  omega
/-- What is made long lies within 2^20, and one part is beyond 2^19. -/
theorem lngF_is : ∀ (g : Nat) (q : Pt), g ≤ 20 → q.inB 1048576 = true → q.far (20 - g) → (lngF g q).inB 1048576 = true ∧ (lngF g q).inB 524288 = false
  | 0, q, _, h, hb => by
    refine ⟨h, ?_⟩
    cases hq : q.inB 524288 with
    | false => exact hq
    | true => exact absurd (far_lt hq hb) (by omega)
  | g + 1, q, hg, h, hb => by
    cases hq : q.inB 524288 with
    | false => rw [lngF_stop hq]; exact ⟨h, hq⟩
    | true =>
      rw [lngF_step hq]
      exact lngF_is g q.dbl (by omega) (dbl_in hq) (by have := far_dbl hb; rwa [show 20 - (g + 1) + 1 = 20 - g by omega] at this)
theorem lng_is (p : Pt) : p.lng = Pt.O ∨ (p.lng.inB 1048576 = true ∧ p.lng.inB 524288 = false) := by
  unfold Pt.lng
  split
  · exact Or.inl rfl
  · next h => exact Or.inr (lngF_is 20 _ (Nat.le_refl _) (short_in p) (far_zero h))
theorem lng_in (p : Pt) : p.lng.inB 1048576 = true := by
  rcases lng_is p with h | h
  · rw [h]; decide
  · exact h.1

theorem sq0 (x : Int) : 0 ≤ x * x := by
  rcases Int.le_total 0 x with h | h
  · exact Int.mul_nonneg h h
  · have := Int.mul_nonneg (a := -x) (b := -x) (by omega) (by omega)
    rwa [Int.neg_mul_neg] at this
/-- A direction's sizes. -/
def dn (n : Pt) : Int := (isq (n.dot n).toNat : Int)
def up (n : Pt) : Int := if dn n * dn n = n.dot n then dn n else dn n + 1
theorem dot_self (n : Pt) : 0 ≤ n.dot n := by
  unfold Pt.dot
  have h1 := sq0 n.x
  have h2 := sq0 n.y
  have h3 := sq0 n.z
  omega
theorem dn_is (n : Pt) : 0 ≤ dn n ∧ dn n * dn n ≤ n.dot n ∧ n.dot n < (dn n + 1) * (dn n + 1) := by
  have h := isq_is (n.dot n).toNat
  have h0 := dot_self n
  unfold dn
  refine ⟨by omega, ?_, ?_⟩
  · have : ((isq (n.dot n).toNat * isq (n.dot n).toNat : Nat) : Int) ≤ ((n.dot n).toNat : Int) := Int.ofNat_le.2 h.1
    rw [Int.natCast_mul] at this
    omega
  · have : ((n.dot n).toNat : Int) < (((isq (n.dot n).toNat + 1) * (isq (n.dot n).toNat + 1) : Nat) : Int) := Int.ofNat_lt.2 h.2
    rw [Int.natCast_mul, Int.natCast_add, show ((1 : Nat) : Int) = 1 from rfl] at this
    have e : ((n.dot n).toNat : Int) = n.dot n := Int.toNat_of_nonneg h0
    omega
theorem dn_of {n : Pt} {r : Int} (h0 : 0 ≤ r) (h1 : r * r ≤ n.dot n) (h2 : n.dot n < (r + 1) * (r + 1)) : r = dn n := isq_of h0 h1 h2

/-- The least and the greatest along a direction, of the first k + 1 points. -/
def loK (n : Pt) (P : List Pt) : Nat → Int
  | 0 => n.dot (pt P 0)
  | k + 1 => min (loK n P k) (n.dot (pt P (k + 1)))
def hiK (n : Pt) (P : List Pt) : Nat → Int
  | 0 => n.dot (pt P 0)
  | k + 1 => max (hiK n P k) (n.dot (pt P (k + 1)))
def loP (n : Pt) (P : List Pt) : Int := loK n P (P.length - 1)
def hiP (n : Pt) (P : List Pt) : Int := hiK n P (P.length - 1)
theorem loK_le (n : Pt) (P : List Pt) : ∀ k i, i ≤ k → loK n P k ≤ n.dot (pt P i)
  | 0, i, h => by obtain rfl : i = 0 := by omega
                  exact Int.le_refl _
  | k + 1, i, h => by
    simp only [loK]
    by_cases e : i = k + 1
    · subst e; omega
    · have := loK_le n P k i (by omega); omega
theorem loK_eq (n : Pt) (P : List Pt) : ∀ k, ∃ i, i ≤ k ∧ loK n P k = n.dot (pt P i)
  | 0 => ⟨0, Nat.le_refl _, rfl⟩
  | k + 1 => by
    obtain ⟨i, hi, e⟩ := loK_eq n P k
    simp only [loK]
    by_cases h : loK n P k ≤ n.dot (pt P (k + 1))
    · exact ⟨i, by omega, by omega⟩
    · exact ⟨k + 1, Nat.le_refl _, by omega⟩
theorem hiK_ge (n : Pt) (P : List Pt) : ∀ k i, i ≤ k → n.dot (pt P i) ≤ hiK n P k
  | 0, i, h => by obtain rfl : i = 0 := by omega
                  exact Int.le_refl _
  | k + 1, i, h => by
    simp only [hiK]
    by_cases e : i = k + 1
    · subst e; omega
    · have := hiK_ge n P k i (by omega); omega
theorem hiK_eq (n : Pt) (P : List Pt) : ∀ k, ∃ i, i ≤ k ∧ hiK n P k = n.dot (pt P i)
  | 0 => ⟨0, Nat.le_refl _, rfl⟩
  | k + 1 => by
    obtain ⟨i, hi, e⟩ := hiK_eq n P k
    simp only [hiK]
    by_cases h : n.dot (pt P (k + 1)) ≤ hiK n P k
    · exact ⟨i, by omega, by omega⟩
    · exact ⟨k + 1, Nat.le_refl _, by omega⟩
theorem neg_dot (n p : Pt) : n.neg.dot p = -(n.dot p) := by unfold Pt.neg Pt.dot; dsimp only; simp only [Int.neg_mul]; omega
theorem hiK_neg (n : Pt) (P : List Pt) : ∀ k, hiK n.neg P k = -(loK n P k)
  | 0 => neg_dot _ _
  | k + 1 => by simp only [hiK, loK, hiK_neg n P k, neg_dot]; omega
/-- How far a dot product goes. -/
theorem dot_inC {n p : Pt} {A B C : Int} (hn : n.inB A = true) (hp : p.inB B = true) (h : 3 * (A * B) ≤ C) : -C ≤ n.dot p ∧ n.dot p ≤ C := by
  rw [Pt.inB_iff] at hn hp
  have h1 := mul_in hn.1 hp.1
  have h2 := mul_in hn.2.1 hp.2.1
  have h3 := mul_in hn.2.2 hp.2.2
  unfold Pt.dot
  omega
theorem loK_in {n : Pt} {P : List Pt} {A B C : Int} (hn : n.inB A = true) (hP : ∀ p ∈ P, p.inB B = true) (h : 3 * (A * B) ≤ C) (k : Nat) (hk : k < P.length) : -C ≤ loK n P k ∧ loK n P k ≤ C := by
  obtain ⟨i, hi, e⟩ := loK_eq n P k
  rw [e]
  exact dot_inC hn (hP _ (pt_mem (by omega))) h
theorem hiK_in {n : Pt} {P : List Pt} {A B C : Int} (hn : n.inB A = true) (hP : ∀ p ∈ P, p.inB B = true) (h : 3 * (A * B) ≤ C) (k : Nat) (hk : k < P.length) : -C ≤ hiK n P k ∧ hiK n P k ≤ C := by
  obtain ⟨i, hi, e⟩ := hiK_eq n P k
  rw [e]
  exact dot_inC hn (hP _ (pt_mem (by omega))) h

/-- The gap of a long direction. -/
def room (n : Pt) (P Q : List Pt) : Int := loP n Q - hiP n P
def gap0 (n : Pt) (P Q : List Pt) : Int := if 0 ≤ room n P Q then (room n P Q).tdiv (up n) else -((dn n - 1 - room n P Q).tdiv (dn n))
def gapZ (P Q : List Pt) (r s : Int) (n : Pt) : Int := gap0 n P Q - r - s

/-- What may be told apart. -/
structure Cr where
  P : List Pt
  A : List Pt
  E : List Pt
  r : Int
def mayC (c : Cr) : Bool := decide (1 ≤ c.P.length ∧ c.P.length ≤ 32) && c.P.all (·.inB 16777216) && (decide (c.A.length ≤ 128) && c.A.all (·.inB 1048576)) && (decide (c.E.length ≤ 128) && c.E.all (·.inB 1048576)) && decide (0 ≤ c.r ∧ c.r ≤ 65536)

/-- The candidates. -/
def crossL (E F : List Pt) : List Pt := E.flatMap fun e => F.map fun f => e.cross f
def wayD (p q : Pt) : Pt := (q.sub p).short
def wayE (d e : Pt) : Pt := (e.cross d).short.cross e
def wayG (EE : List Pt) (p q : Pt) : List Pt := wayD p q :: EE.map fun e => wayE (wayD p q) e
def wayR (Q EE : List Pt) (p : Pt) : List Pt := Q.flatMap fun q => wayG EE p q
def wayL (P Q EE : List Pt) : List Pt := if 2 < P.length ∧ 2 < Q.length then [] else P.flatMap fun p => wayR Q EE p
def candL (a b : Cr) : List Pt := (a.A ++ b.A) ++ (crossL a.E b.E ++ wayL a.P b.P (a.E ++ b.E))
def both : List Pt → List Pt
  | [] => []
  | p :: r => if p.lng = Pt.O then both r else p.lng :: p.lng.neg :: both r
theorem both_app : ∀ A B : List Pt, both (A ++ B) = both A ++ both B
  | [], _ => rfl
  | p :: r, B => by simp only [List.cons_append, both, both_app r B]; split <;> rfl
abbrev Bs := Option (Pt × Int)
def bestS (g : Pt → Int) (s : Bs) (n : Pt) : Bs := match s with
  | none => some (n, g n)
  | some (m, h) => if h < g n then some (n, g n) else some (m, h)
def bestL (g : Pt → Int) (s : Bs) (L : List Pt) : Bs := L.foldl (bestS g) s
def told (a b : Cr) : Pt × Int := match bestL (gapZ a.P b.P a.r b.r) none (both (candL a b)) with
  | none => (⟨0, 0, 1048576⟩, -a.r - b.r)
  | some x => x
theorem pt_mid {A B C : List Pt} {j : Nat} (h : j < B.length) : pt (A ++ (B ++ C)) (A.length + j) = pt B j := by
  unfold pt
  rw [List.getElem?_append_right (by omega), List.getElem?_append_left (by omega)]
  congr 2
  omega
theorem pt_app {A B : List Pt} {j : Nat} : pt (A ++ B) (A.length + j) = pt B j := by
  unfold pt
  rw [List.getElem?_append_right (by omega)]
  congr 2
  omega
theorem pt_left {A B : List Pt} {j : Nat} (h : j < A.length) : pt (A ++ B) j = pt A j := by
  unfold pt
  rw [List.getElem?_append_left h]
theorem pt_map {L : List Pt} {f : Pt → Pt} {j : Nat} (h : j < L.length) : pt (L.map f) j = f (pt L j) := by
  unfold pt
  simp [List.getElem?_map, List.getElem?_eq_getElem h]
/-- A list of lists, one after the other: its parts by their places. -/
theorem flat_part (f : Pt → List Pt) (L : List Pt) {i : Nat} (h : i < L.length) : L.flatMap f = (L.take i).flatMap f ++ (f (pt L i) ++ (L.drop (i + 1)).flatMap f) := by
  have e : L = L.take i ++ pt L i :: L.drop (i + 1) := by rw [← drop_pt h, List.take_append_drop]
  have e2 : L.flatMap f = (L.take i ++ pt L i :: L.drop (i + 1)).flatMap f := congrArg _ e
  rw [e2, List.flatMap_append, List.flatMap_cons]
theorem flat_next (f : Pt → List Pt) (L : List Pt) {i : Nat} (h : i < L.length) : ((L.take (i + 1)).flatMap f).length = ((L.take i).flatMap f).length + (f (pt L i)).length := by
  rw [take_pt h, List.flatMap_append, List.length_append]
  simp
theorem flat_at (f : Pt → List Pt) (L : List Pt) {i j : Nat} (h : i < L.length) (hj : j < (f (pt L i)).length) : pt (L.flatMap f) (((L.take i).flatMap f).length + j) = pt (f (pt L i)) j := by
  rw [flat_part f L h]
  exact pt_mid hj
theorem flat_lt (f : Pt → List Pt) (L : List Pt) {i j : Nat} (h : i < L.length) (hj : j < (f (pt L i)).length) : ((L.take i).flatMap f).length + j < (L.flatMap f).length := by
  rw [flat_part f L h, List.length_append, List.length_append]
  omega
end Go.Proofs.Ytccdgpijjgeedaa
