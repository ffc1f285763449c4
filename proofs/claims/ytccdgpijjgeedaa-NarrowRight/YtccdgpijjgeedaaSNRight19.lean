/- How many axes and edges a hull can have: no pair of its points lies on three of its sides. Plain mathematics. -/
import Derived.Test.YtccdgpijjgeedaaSNRight18
import Derived.Test.YtccdgpijjgeedaaSNRight0
import Derived.Test.YtccdgpijjgeedaaSNRight1
import Derived.Test.YtccdgpijjgeedaaSNRight11
import Derived.Test.YtccdgpijjgeedaaSNRight15
import Derived.RangeFuncNested
import Derived.RangeFuncBound
import Derived.RangeFuncCalls
import Derived.RangeFuncLeaves
import Derived.RangeFuncBox
import Derived.Shelf.Abstract
import Derived.WalkKit
import Derived.OwnWalkIn
import Derived.TacticsInMore
import Derived.LoopNIn
import Derived.LoopIn
import Derived.LoopTactic
import Derived.ProofKit
import Derived.Handy
set_option linter.unusedVariables false
namespace Go.Proofs.Ytccdgpijjgeedaa
section
theorem filter_two {α : Type} (p : α -> Bool) : ∀ L : List α, L.length = (L.filter p).length + (L.filter (fun x => !p x)).length
 | [] => rfl
 | x :: r => by
  have := filter_two p r
  cases h : p x <;> simp [h] <;> omega
theorem fiber_le {α β : Type} [DecidableEq β] (f : α -> β) (c : Nat) : ∀ (Q : List β) (L : List α), (∀ x ∈ L, f x ∈ Q) -> (∀ q ∈ Q, (L.filter (fun x => decide (f x = q))).length <= c) -> L.length <= c * Q.length
 | [], L, h, _ => by
  cases L with
  | nil => simp
  | cons x r => exact absurd (h x List.mem_cons_self) (by simp)
 | q :: Q, L, h, hc => by
  have h1 := hc q List.mem_cons_self
  have h2 := fiber_le f c Q (L.filter (fun x => !decide (f x = q))) (fun x hx => by
   rw [List.mem_filter] at hx
   rcases List.mem_cons.1 (h x hx.1) with e | e
   ·simp [e] at hx
   ·exact e) (fun q' hq' => by
   refine Nat.le_trans ?_ (hc q' (List.mem_cons_of_mem _ hq'))
   rw [List.filter_filter]
   rw [<- List.countP_eq_length_filter, <- List.countP_eq_length_filter]
   exact List.countP_mono_left (fun x _ hx => by simp at hx ⊢; exact hx.1))
  have h3 := filter_two (fun x => decide (f x = q)) L
  rw [List.length_cons, Nat.mul_succ]
  omega
def pairsL : List Pt -> List (Pt × Pt)
 | [] => []
 | x :: r => r.map (fun y => (x, y)) ++ pairsL r
theorem pairs_mem {b c : Pt} : ∀ {L : List Pt}, List.Sublist [b, c] L -> (b, c) ∈ pairsL L
 | [], h => by simp at h
 | x :: r, h => by
  rw [pairsL, List.mem_append]
  rcases List.sublist_cons_iff.1 h with h | ⟨t, e, h⟩
  ·exact Or.inr (pairs_mem h)
  ·simp only [List.cons.injEq] at e
   obtain ⟨rfl, rfl⟩ := e
   exact Or.inl (List.mem_map.2 ⟨c, List.singleton_sublist.1 h, rfl⟩)
theorem pairs_len : ∀ L : List Pt, (pairsL L).length * 2 + L.length = L.length * L.length
 | [] => rfl
 | x :: r => by
  have := pairs_len r
  simp only [pairsL, List.length_append, List.length_map, List.length_cons]
  grind
theorem pairs_55 {L : List Pt} (h : L.length <= 11) : (pairsL L).length <= 55 := by
 have h1 := pairs_len L
 generalize (pairsL L).length = k at *
 have : L.length = 0 \/ L.length = 1 \/ L.length = 2 \/ L.length = 3 \/ L.length = 4 \/ L.length = 5 \/ L.length = 6 \/ L.length = 7 \/ L.length = 8 \/ L.length = 9 \/ L.length = 10 \/ L.length = 11 := by omega
 rcases this with e | e | e | e | e | e | e | e | e | e | e | e <;> rw [e] at h1 <;> omega
theorem pairs_66 {L : List Pt} (h : L.length <= 12) : (pairsL L).length <= 66 := by
 have h1 := pairs_len L
 generalize (pairsL L).length = k at *
 have : L.length = 0 \/ L.length = 1 \/ L.length = 2 \/ L.length = 3 \/ L.length = 4 \/ L.length = 5 \/ L.length = 6 \/ L.length = 7 \/ L.length = 8 \/ L.length = 9 \/ L.length = 10 \/ L.length = 11 \/ L.length = 12 := by omega
 rcases this with e | e | e | e | e | e | e | e | e | e | e | e | e <;> rw [e] at h1 <;> omega
def tri (a b c : Pt) : Int := (a.cross b).dot c
theorem sq_zero {x y z : Int} (h : x * x + y * y + z * z = 0) : x = 0 /\ y = 0 /\ z = 0 := by
 have s : ∀ t : Int, 0 <= t * t := fun t => by rcases Int.le_total 0 t with h | h; exact Int.mul_nonneg h h; have := Int.mul_nonneg (a := -t) (b := -t) (by omega) (by omega); rwa [Int.neg_mul_neg] at this
 have hx := s x
 have hy := s y
 have hz := s z
 refine ⟨?_, ?_, ?_⟩
 ·have : x * x = 0 := by omega
  rcases Int.mul_eq_zero.1 this with h | h <;> exact h
 ·have : y * y = 0 := by omega
  rcases Int.mul_eq_zero.1 this with h | h <;> exact h
 ·have : z * z = 0 := by omega
  rcases Int.mul_eq_zero.1 this with h | h <;> exact h
theorem self_pos {p : Pt} (h : p ≠ Pt.O) : p.dot p ≠ 0 := fun e => h (by
 obtain ⟨h1, h2, h3⟩ := sq_zero e
 cases p
 simp only [Pt.O] at *
 simp [h1, h2, h3])
theorem hang (a b c e y : Pt) : tri b c e * a.dot y + tri c a e * b.dot y + tri a b e * c.dot y = tri a b c * e.dot y := by
 simp only [tri, Pt.cross, Pt.dot]
 grind
theorem three_flat {a b c e : Pt} (h0 : e ≠ Pt.O) (ha : a.dot e = 0) (hb : b.dot e = 0) (hc : c.dot e = 0) (y : Pt) : tri b c e * a.dot y + tri c a e * b.dot y + tri a b e * c.dot y = 0 := by
 have h1 := hang a b c e e
 rw [ha, hb, hc] at h1
 simp only [Int.mul_zero, Int.add_zero] at h1
 have h2 : tri a b c = 0 := (Int.mul_eq_zero.1 h1.symm).resolve_right (self_pos h0)
 rw [hang, h2, Int.zero_mul]
theorem same_way {a b e : Pt} (h0 : e ≠ Pt.O) (ha : a.dot e = 0) (hb : b.dot e = 0) (h : tri a b e = 0) : a.cross b = Pt.O := by
 have h1 : (a.cross b).dot (a.cross b) * e.dot e = 0 := by
  simp only [tri, Pt.cross, Pt.dot] at *
  grind
 have h2 := (Int.mul_eq_zero.1 h1).resolve_right (self_pos h0)
 by_cases h3 : a.cross b = Pt.O
 ·exact h3
 ·exact absurd h2 (self_pos h3)
theorem both_nought {A B x y : Int} (hA : A ≠ 0) (hB : B ≠ 0) (hs : 0 < A * B) (hx : x <= 0) (hy : y <= 0) (h : A * x + B * y = 0) : x = 0 /\ y = 0 := by
 rcases Int.lt_or_gt_of_ne hA with a | a
 ·have b : B < 0 := by
   rcases Int.lt_or_gt_of_ne hB with b | b
   ·exact b
   ·have := Int.mul_neg_of_neg_of_pos a b; omega
  have h1 : 0 <= A * x := by have := Int.mul_nonneg (a := -A) (b := -x) (by omega) (by omega); rwa [Int.neg_mul_neg] at this
  have h2 : 0 <= B * y := by have := Int.mul_nonneg (a := -B) (b := -y) (by omega) (by omega); rwa [Int.neg_mul_neg] at this
  exact ⟨(Int.mul_eq_zero.1 (show A * x = 0 by omega)).resolve_left hA, (Int.mul_eq_zero.1 (show B * y = 0 by omega)).resolve_left hB⟩
 ·have b : 0 < B := by
   rcases Int.lt_or_gt_of_ne hB with b | b
   ·have := Int.mul_neg_of_pos_of_neg a b; omega
   ·exact b
  have h1 : A * x <= 0 := by have := Int.mul_nonneg (a := A) (b := -x) (by omega) (by omega); rw [Int.mul_neg] at this; omega
  have h2 : B * y <= 0 := by have := Int.mul_nonneg (a := B) (b := -y) (by omega) (by omega); rw [Int.mul_neg] at this; omega
  exact ⟨(Int.mul_eq_zero.1 (show A * x = 0 by omega)).resolve_left hA, (Int.mul_eq_zero.1 (show B * y = 0 by omega)).resolve_left hB⟩
theorem two_alike {A B C : Int} (hA : A ≠ 0) (hB : B ≠ 0) (hC : C ≠ 0) : 0 < A * B \/ 0 < B * C \/ 0 < C * A := by
 rcases Int.lt_or_gt_of_ne hA with a | a <;> rcases Int.lt_or_gt_of_ne hB with b | b <;> rcases Int.lt_or_gt_of_ne hC with c | c
 ·exact Or.inl (Int.mul_pos_of_neg_of_neg a b)
 ·exact Or.inl (Int.mul_pos_of_neg_of_neg a b)
 ·exact Or.inr (Or.inr (Int.mul_pos_of_neg_of_neg c a))
 ·exact Or.inr (Or.inl (Int.mul_pos b c))
 ·exact Or.inr (Or.inl (Int.mul_pos_of_neg_of_neg b c))
 ·exact Or.inr (Or.inr (Int.mul_pos c a))
 ·exact Or.inl (Int.mul_pos a b)
 ·exact Or.inl (Int.mul_pos a b)
structure Sd (L : List Pt) (b c N a : Pt) : Prop where
 ne : N ≠ Pt.O
 sq : N.dot (c.sub b) = 0
 le : ∀ x ∈ L, N.dot (x.sub b) <= 0
 mem : a ∈ L
 on : N.dot (a.sub b) = 0
 is : N = (c.sub b).cross (a.sub b) \/ N = ((c.sub b).cross (a.sub b)).neg
theorem tri_is (e u N : Pt) : tri (e.cross u) N e = N.dot e * u.dot e - N.dot u * e.dot e := by
 simp only [tri, Pt.cross, Pt.dot]
 grind
theorem tri_neg (p N e : Pt) : tri p.neg N e = -(tri p N e) := by
 simp only [tri, Pt.cross, Pt.dot, Pt.neg]
 grind
theorem third {b c N1 N2 N3 a1 a2 a3 : Pt} {L : List Pt} (h1 : Sd L b c N1 a1) (h2 : Sd L b c N2 a2) (h3 : Sd L b c N3 a3) (hA : tri N2 N3 (c.sub b) ≠ 0) (hB : tri N3 N1 (c.sub b) ≠ 0) (hC : tri N1 N2 (c.sub b) ≠ 0) (hs : 0 < tri N2 N3 (c.sub b) * tri N3 N1 (c.sub b)) : False := by
 have he : c.sub b ≠ Pt.O := fun e => hC (by rw [e]; simp [tri, Pt.dot, Pt.O])
 have h := three_flat he h1.sq h2.sq h3.sq (a3.sub b)
 rw [h3.on, Int.mul_zero, Int.add_zero] at h
 obtain ⟨x, y⟩ := both_nought hA hB hs (h1.le _ h3.mem) (h2.le _ h3.mem) h
 have hsq := h1.sq
 apply hB
 rcases h3.is with k | k
 ·rw [k, tri_is, hsq, x, Int.zero_mul, Int.zero_mul]
  rfl
 ·rw [k, tri_neg, tri_is, hsq, x, Int.zero_mul, Int.zero_mul]
  rfl
theorem no_three {b c N1 N2 N3 a1 a2 a3 : Pt} {L : List Pt} (h1 : Sd L b c N1 a1) (h2 : Sd L b c N2 a2) (h3 : Sd L b c N3 a3) (hA : tri N2 N3 (c.sub b) ≠ 0) (hB : tri N3 N1 (c.sub b) ≠ 0) (hC : tri N1 N2 (c.sub b) ≠ 0) : False := by
 rcases two_alike hA hB hC with h | h | h
 ·exact third h1 h2 h3 hA hB hC h
 ·exact third h2 h3 h1 hB hC hA h
 ·exact third h3 h1 h2 hC hA hB h
theorem gcd_line {a b : Pt} (k l : Int) (h1 : k * b.x = l * a.x) (h2 : k * b.y = l * a.y) (h3 : k * b.z = l * a.z) : k.natAbs * b.g = l.natAbs * a.g := by
 unfold Pt.g
 rw [<- Nat.gcd_mul_left, <- Nat.gcd_mul_left, <- Nat.gcd_mul_left, <- Nat.gcd_mul_left, <- Int.natAbs_mul, <- Int.natAbs_mul, <- Int.natAbs_mul, <- Int.natAbs_mul, <- Int.natAbs_mul, <- Int.natAbs_mul, h1, h2, h3]
theorem part_same {x y : Int} {m n : Nat} (hm : 0 < m) (hn : 0 < n) (dx : (m : Int) ∣ x) (dy : (n : Int) ∣ y) (e : x.natAbs * n = y.natAbs * m) (s : 0 <= x * y) : x.tdiv m = y.tdiv n := by
 obtain ⟨u, rfl⟩ := dx
 obtain ⟨v, rfl⟩ := dy
 have hm' : (m : Int) ≠ 0 := by omega
 have hn' : (n : Int) ≠ 0 := by omega
 rw [Int.mul_tdiv_cancel_left _ hm', Int.mul_tdiv_cancel_left _ hn']
 rw [Int.natAbs_mul, Int.natAbs_mul, Int.natAbs_natCast, Int.natAbs_natCast] at e
 have e2 : (m * n) * u.natAbs = (m * n) * v.natAbs := by
  rw [Nat.mul_right_comm, e, Nat.mul_comm m n, Nat.mul_right_comm]
 have e3 := Nat.eq_of_mul_eq_mul_left (Nat.mul_pos hm hn) e2
 have s2 : 0 <= u * v := by
  have s3 : (m : Int) * u * (n * v) = ((m : Int) * n) * (u * v) := by grind
  rw [s3] at s
  have hp : (0 : Int) < (m : Int) * n := Int.mul_pos (by omega) (by omega)
  rcases Decidable.em (u * v < 0) with h | h
  ·have := Int.mul_neg_of_pos_of_neg hp h; omega
  ·omega
 rcases (show u = v \/ u = -v by omega) with h | h
 ·exact h
 ·subst h
  have : v * v <= 0 := by rw [Int.neg_mul] at s2; omega
  have h0 : v = 0 := (sq_zero (x := v) (y := 0) (z := 0) (by have := (show (0 : Int) <= v * v from by rcases Int.le_total 0 v with h | h; exact Int.mul_nonneg h h; have := Int.mul_nonneg (a := -v) (b := -v) (by omega) (by omega); rwa [Int.neg_mul_neg] at this); omega)).1
  omega
theorem g_pos {p : Pt} (h : p ≠ Pt.O) : 0 < p.g := by
 rcases Nat.eq_zero_or_pos p.g with h0 | h0
 ·exfalso
  unfold Pt.g at h0
  rw [Nat.gcd_eq_zero_iff, Nat.gcd_eq_zero_iff] at h0
  apply h
  cases p
  simp only [Pt.O, Pt.mk.injEq] at *
  omega
 ·exact h0
theorem g_dvdZ (p : Pt) : (p.g : Int) ∣ p.x /\ (p.g : Int) ∣ p.y /\ (p.g : Int) ∣ p.z := by
 have h1 : p.g ∣ p.x.natAbs := Nat.dvd_trans (Nat.gcd_dvd_left _ _) (Nat.gcd_dvd_left _ _)
 have h2 : p.g ∣ p.y.natAbs := Nat.dvd_trans (Nat.gcd_dvd_left _ _) (Nat.gcd_dvd_right _ _)
 have h3 : p.g ∣ p.z.natAbs := Nat.gcd_dvd_right _ _
 exact ⟨Int.dvd_natAbs.1 (Int.natCast_dvd_natCast.2 h1), Int.dvd_natAbs.1 (Int.natCast_dvd_natCast.2 h2), Int.dvd_natAbs.1 (Int.natCast_dvd_natCast.2 h3)⟩
theorem sign_same {a b : Pt} (hb : b ≠ Pt.O) (hd : 0 < a.dot b) {s t : Int} (h : s * b.dot b = t * a.dot b) : 0 <= s * t := by
 have h0 := self_pos hb
 have h1 : 0 <= b.dot b := by
  simp only [Pt.dot]
  have q : ∀ t : Int, 0 <= t * t := fun t => by rcases Int.le_total 0 t with h | h; exact Int.mul_nonneg h h; have := Int.mul_nonneg (a := -t) (b := -t) (by omega) (by omega); rwa [Int.neg_mul_neg] at this
  have := q b.x
  have := q b.y
  have := q b.z
  omega
 rcases Decidable.em (s * t < 0) with h2 | h2
 ·exfalso
  have h3 : s * t * b.dot b = t * t * a.dot b := by
   have : s * t * b.dot b = t * (s * b.dot b) := by grind
   rw [this, h]
   grind
  have h4 : s * t * b.dot b < 0 := Int.mul_neg_of_neg_of_pos h2 (by omega)
  have h5 : 0 <= t * t := by rcases Int.le_total 0 t with h | h; exact Int.mul_nonneg h h; have := Int.mul_nonneg (a := -t) (b := -t) (by omega) (by omega); rwa [Int.neg_mul_neg] at this
  have h6 := Int.mul_nonneg h5 (Int.le_of_lt hd)
  omega
 ·omega
theorem low_same {a b : Pt} (ha : a ≠ Pt.O) (hb : b ≠ Pt.O) (h : a.cross b = Pt.O) (hd : 0 < a.dot b) : a.low = b.low := by
 have ga := g_pos ha
 have gb := g_pos hb
 obtain ⟨a1, a2, a3⟩ := g_dvdZ a
 obtain ⟨b1, b2, b3⟩ := g_dvdZ b
 simp only [Pt.cross, Pt.O, Pt.mk.injEq] at h
 obtain ⟨c1, c2, c3⟩ := h
 have ex := gcd_line (a := a) (b := b) a.x b.x (by grind) (by grind) (by grind)
 have ey := gcd_line (a := a) (b := b) a.y b.y (by grind) (by grind) (by grind)
 have ez := gcd_line (a := a) (b := b) a.z b.z (by grind) (by grind) (by grind)
 have sx := sign_same hb hd (s := a.x) (t := b.x) (by simp only [Pt.dot]; grind)
 have sy := sign_same hb hd (s := a.y) (t := b.y) (by simp only [Pt.dot]; grind)
 have sz := sign_same hb hd (s := a.z) (t := b.z) (by simp only [Pt.dot]; grind)
 unfold Pt.low
 rw [if_neg (by omega), if_neg (by omega)]
 unfold Pt.by
 rw [part_same ga gb a1 b1 ex sx, part_same ga gb a2 b2 ey sy, part_same ga gb a3 b3 ez sz]
theorem short_same {a b : Pt} (ha : a ≠ Pt.O) (hb : b ≠ Pt.O) (h : a.cross b = Pt.O) (hd : 0 < a.dot b) (ia : a.inB 4398046511104 = true) (ib : b.inB 4398046511104 = true) : a.short = b.short := by
 unfold Pt.short
 rw [if_pos ia, if_pos ib, low_same ha hb h hd]
theorem flat_of {L : List Pt} {N b : Pt} (hN : N ≠ Pt.O) (h : ∀ x ∈ L, N.dot (x.sub b) = 0) : flatAll L := by
 intro p hp q hq r hr s hs
 have h1 : N.dot (q.sub p) = 0 := by have := h p hp; have := h q hq; simp only [Pt.dot, Pt.sub] at *; grind
 have h2 : N.dot (r.sub p) = 0 := by have := h p hp; have := h r hr; simp only [Pt.dot, Pt.sub] at *; grind
 have h3 : N.dot (s.sub p) = 0 := by have := h p hp; have := h s hs; simp only [Pt.dot, Pt.sub] at *; grind
 unfold vol
 generalize q.sub p = u at *
 generalize r.sub p = v at *
 generalize s.sub p = t at *
 have h4 := hang u v t N N
 have h5 : tri u v t * N.dot N = 0 := by
  rw [<- h4]
  have e1 : u.dot N = 0 := by rw [<- h1]; simp only [Pt.dot]; grind
  have e2 : v.dot N = 0 := by rw [<- h2]; simp only [Pt.dot]; grind
  have e3 : t.dot N = 0 := by rw [<- h3]; simp only [Pt.dot]; grind
  rw [e1, e2, e3]
  simp
 exact (Int.mul_eq_zero.1 h5).resolve_right (self_pos hN)
theorem apart_tri {L : List Pt} {b c N1 N2 a1 a2 : Pt} (h1 : Sd L b c N1 a1) (h2 : Sd L b c N2 a2) (nf : ¬ flatAll L) (he : c.sub b ≠ Pt.O) (i1 : N1.inB 4398046511104 = true) (i2 : N2.inB 4398046511104 = true) (hne : N1.short ≠ N2.short) : tri N1 N2 (c.sub b) ≠ 0 := by
 intro h
 have hx := same_way he h1.sq h2.sq h
 have hdn : N1.dot N2 ≠ 0 := fun e => by
  have k : N1.dot N1 * N2.dot N2 = 0 := by
   simp only [Pt.cross, Pt.O, Pt.mk.injEq] at hx
   obtain ⟨c1, c2, c3⟩ := hx
   simp only [Pt.dot] at *
   grind
  rcases Int.mul_eq_zero.1 k with k | k
  ·exact self_pos h1.ne k
  ·exact self_pos h2.ne k
 rcases Int.lt_or_gt_of_ne hdn with hd | hd
 ·apply nf
  refine flat_of (b := b) h1.ne fun x hxL => ?_
  have l1 := h1.le x hxL
  have l2 := h2.le x hxL
  generalize x.sub b = y at *
  have k : N1.dot N2 * N1.dot y = N1.dot N1 * N2.dot y := by
   simp only [Pt.cross, Pt.O, Pt.mk.injEq] at hx
   obtain ⟨c1, c2, c3⟩ := hx
   simp only [Pt.dot] at *
   grind
  have k1 : 0 <= N1.dot N2 * N1.dot y := by have := Int.mul_nonneg (a := -(N1.dot N2)) (b := -(N1.dot y)) (by omega) (by omega); rwa [Int.neg_mul_neg] at this
  have k2 : N1.dot N1 * N2.dot y <= 0 := by
   have q : 0 <= N1.dot N1 := by
    simp only [Pt.dot]
    have q : ∀ t : Int, 0 <= t * t := fun t => by rcases Int.le_total 0 t with h | h; exact Int.mul_nonneg h h; have := Int.mul_nonneg (a := -t) (b := -t) (by omega) (by omega); rwa [Int.neg_mul_neg] at this
    have := q N1.x
    have := q N1.y
    have := q N1.z
    omega
   have := Int.mul_nonneg q (show 0 <= -(N2.dot y) by omega)
   rw [Int.mul_neg] at this
   omega
  exact (Int.mul_eq_zero.1 (show N1.dot N2 * N1.dot y = 0 by omega)).resolve_left hdn
 ·exact hne (short_same h1.ne h2.ne hx hd i1 i2)
theorem tri_turn (a b c : Pt) : (c.sub b).cross (a.sub b) = (b.sub a).cross (c.sub a) := by
 simp only [Pt.cross, Pt.sub, Pt.mk.injEq]
 refine ⟨by grind, by grind, by grind⟩
theorem gives_sd {L : List Pt} {a b c q : Pt} (h : Gives L a b c q) (ha : a ∈ L) : ∃ N, Sd L b c N a /\ q = N.short /\ (N = (b.sub a).cross (c.sub a) \/ N = ((b.sub a).cross (c.sub a)).neg) := by
 obtain ⟨h1, h2, h3⟩ := h
 have t := tri_turn a b c
 have e1 : ((b.sub a).cross (c.sub a)).dot (c.sub b) = 0 := by simp only [Pt.dot, Pt.cross, Pt.sub]; grind
 have e2 : ((b.sub a).cross (c.sub a)).dot (a.sub b) = 0 := by simp only [Pt.dot, Pt.cross, Pt.sub]; grind
 have e3 : ∀ x : Pt, ((b.sub a).cross (c.sub a)).dot (x.sub b) = ((b.sub a).cross (c.sub a)).dot (x.sub a) := fun x => by simp only [Pt.dot, Pt.cross, Pt.sub]; grind
 have ng : ∀ p q : Pt, p.neg.dot q = -(p.dot q) := fun p q => by simp only [Pt.dot, Pt.neg]; grind
 have nO : ∀ p : Pt, p ≠ Pt.O -> p.neg ≠ Pt.O := fun p hp e => hp (by cases p; simp only [Pt.neg, Pt.O, Pt.mk.injEq] at *; omega)
 cases ha2 : above L ((b.sub a).cross (c.sub a)) a with
 | true =>
  rw [ha2] at h3 h2
  have hb : below L ((b.sub a).cross (c.sub a)) a = false := by
   cases hb : below L ((b.sub a).cross (c.sub a)) a with
   | false => rfl
   | true => exact absurd ⟨rfl, hb⟩ h2
  unfold below at hb
  rw [List.any_eq_false] at hb
  refine ⟨((b.sub a).cross (c.sub a)).neg, ⟨nO _ h1, by rw [ng, e1]; rfl, fun x hx => ?_, ha, by rw [ng, e2]; rfl, Or.inr (by rw [t])⟩, h3, Or.inr rfl⟩
  have := hb x hx
  simp only [decide_eq_true_eq] at this
  rw [ng, e3]
  omega
 | false =>
  rw [ha2] at h3
  unfold above at ha2
  rw [List.any_eq_false] at ha2
  refine ⟨(b.sub a).cross (c.sub a), ⟨h1, e1, fun x hx => ?_, ha, e2, Or.inl t.symm⟩, h3, Or.inl rfl⟩
  have := ha2 x hx
  simp only [decide_eq_true_eq] at this
  rw [e3]
  omega
theorem outer_inv (L : List Pt) (I : List Pt × List Pt -> Prop) (st : ∀ a b c s, List.Sublist [a, b, c] L -> I s -> I (triP L a b c s)) : ∀ (M : List Pt) (s : List Pt × List Pt), List.Sublist M L -> I s -> I (outerP L M s)
 | [], s, _, h => h
 | a :: r, s, hs, h => by
  have inner : ∀ (b : Pt) (M : List Pt) (s : List Pt × List Pt), (∀ c ∈ M, List.Sublist [a, b, c] L) -> I s -> I (innerP L a b M s) := by
   intro b M
   induction M with
   | nil => intro s _ h; exact h
   | cons c r ih => intro s hc h; exact ih _ (fun c hc' => hc c (List.mem_cons_of_mem _ hc')) (st a b c s (hc c List.mem_cons_self) h)
  have mid : ∀ (M : List Pt) (s : List Pt × List Pt), List.Sublist (a :: M) L -> I s -> I (midP L a M s) := by
   intro M
   induction M with
   | nil => intro s _ h; exact h
   | cons b r ih =>
    intro s hM h
    refine ih _ (List.Sublist.trans ?_ hM) (inner b r s (fun c hc => List.Sublist.trans ?_ hM) h)
    ·exact List.Sublist.cons_cons _ (List.sublist_cons_self _ _)
    ·exact List.Sublist.cons_cons _ (List.Sublist.cons_cons _ (List.singleton_sublist.2 hc))
  exact outer_inv L I st r _ (List.Sublist.trans (List.sublist_cons_self _ _) hs) (mid r s hs h)
theorem axis_nodup {A : List Pt} {n : Pt} (h : A.Nodup) : (withAxisP A n).Nodup := by
 unfold withAxisP
 split
 ·exact h
 ·next hn => exact List.nodup_append.2 ⟨h, by simp, fun x hx y hy e => by simp at hy; subst hy; subst e; exact hn hx⟩
def Eds (L E : List Pt) : Prop := E.Nodup /\ ∀ e ∈ E, ∃ p ∈ pairsL L, e = (p.2.sub p.1).short
theorem edge_eds {L E : List Pt} {a b : Pt} (h : Eds L E) (hs : List.Sublist [a, b] L) : Eds L (withEdgeP E (b.sub a)) := by
 unfold withEdgeP
 split
 ·exact h
 ·next hn =>
  rw [not_or] at hn
  refine ⟨List.nodup_append.2 ⟨h.1, by simp, fun x hx y hy e => by simp at hy; subst hy; subst e; exact hn.1 hx⟩, fun e he => ?_⟩
  rcases List.mem_append.1 he with he | he
  ·exact h.2 e he
  ·simp at he
   exact ⟨(a, b), pairs_mem hs, he⟩
theorem sides_eds (L : List Pt) : (sidesP L).1.Nodup /\ Eds L (sidesP L).2 := by
 unfold sidesP
 refine outer_inv L (fun s => s.1.Nodup /\ Eds L s.2) ?_ L _ (List.Sublist.refl _) ⟨by simp, by simp [Eds]⟩
 intro a b c s hs h
 unfold triP
 dsimp only
 split
 ·exact h
 ·refine ⟨axis_nodup h.1, ?_⟩
  have s1 : List.Sublist [a, b] L := List.Sublist.trans (by simp) hs
  have s2 : List.Sublist [a, c] L := List.Sublist.trans (List.Sublist.cons_cons _ (List.Sublist.cons _ (List.Sublist.refl _))) hs
  have s3 : List.Sublist [b, c] L := List.Sublist.trans (List.Sublist.cons _ (List.Sublist.refl _)) hs
  exact edge_eds (edge_eds (edge_eds h.2 s1) s2) s3
theorem threeOf {α : Type} {M : List α} (h : M.Nodup) (hl : ¬ M.length <= 2) : ∃ x y z, x ∈ M /\ y ∈ M /\ z ∈ M /\ x ≠ y /\ x ≠ z /\ y ≠ z := by
 match M, h, hl with
 | [], _, hl => simp at hl
 | [_], _, hl => simp at hl
 | [_, _], _, hl => simp at hl
 | x :: y :: z :: r, h, _ =>
  simp only [List.nodup_cons, List.mem_cons, not_or] at h
  exact ⟨x, y, z, by simp, by simp, by simp, h.1.1, h.1.2.1, h.2.1.1⟩
theorem twoOf {α : Type} {M : List α} (h : M.Nodup) (hl : ¬ M.length <= 1) : ∃ x y, x ∈ M /\ y ∈ M /\ x ≠ y := by
 match M, h, hl with
 | [], _, hl => simp at hl
 | [_], _, hl => simp at hl
 | x :: y :: r, h, _ =>
  simp only [List.nodup_cons, List.mem_cons, not_or] at h
  exact ⟨x, y, by simp, by simp, h.1.1⟩
theorem pair_tail {a b c x : Pt} {t : List Pt} (h : List.Sublist [a, b, c] (x :: t)) : List.Sublist [b, c] t := by
 rcases List.sublist_cons_iff.1 h with h | ⟨r, e, h⟩
 ·exact List.Sublist.trans (List.sublist_cons_self _ _) h
 ·simp only [List.cons.injEq] at e
  obtain ⟨rfl, rfl⟩ := e
  exact h
open Classical in
theorem axes_count {L : List Pt} (h12 : L.length <= 12) (hin : ∀ p ∈ L, p.inB 65536 = true) (hnd : L.Nodup) (nf : ¬ flatAll L) : (sidesP L).1.length <= 110 := by
 cases L with
 | nil => simp [sidesP, outerP]
 | cons x t =>
  have W : ∀ q ∈ (sidesP (x :: t)).1, ∃ bc : Pt × Pt, bc ∈ pairsL t /\ ∃ a N, Sd (x :: t) bc.1 bc.2 N a /\ q = N.short /\ N.inB 4398046511104 = true /\ bc.2.sub bc.1 ≠ Pt.O := by
   intro q hq
   obtain ⟨a, b, c, hs, g⟩ := mem_sides.1 hq
   have ma : a ∈ x :: t := hs.subset (by simp)
   have mb : b ∈ x :: t := hs.subset (by simp)
   have mc : c ∈ x :: t := hs.subset (by simp)
   obtain ⟨N, hN, e, hc⟩ := gives_sd g ma
   refine ⟨(b, c), pairs_mem (pair_tail hs), a, N, hN, e, ?_, ?_⟩
   ·have ia := (Pt.inB_iff _ _).1 (hin a ma)
    have ib := (Pt.inB_iff _ _).1 (hin b mb)
    have ic := (Pt.inB_iff _ _).1 (hin c mc)
    have k : ((b.sub a).cross (c.sub a)).inB 34359738368 = true := by
     rw [Pt.inB_iff]
     simp only [Pt.cross, Pt.sub]
     have p1 : -131072 <= b.x - a.x /\ b.x - a.x <= 131072 := by omega
     have p2 : -131072 <= b.y - a.y /\ b.y - a.y <= 131072 := by omega
     have p3 : -131072 <= b.z - a.z /\ b.z - a.z <= 131072 := by omega
     have p4 : -131072 <= c.x - a.x /\ c.x - a.x <= 131072 := by omega
     have p5 : -131072 <= c.y - a.y /\ c.y - a.y <= 131072 := by omega
     have p6 : -131072 <= c.z - a.z /\ c.z - a.z <= 131072 := by omega
     have m1 := mul_in p2 p6
     have m2 := mul_in p3 p5
     have m3 := mul_in p3 p4
     have m4 := mul_in p1 p6
     have m5 := mul_in p1 p5
     have m6 := mul_in p2 p4
     omega
    rcases hc with rfl | rfl
    ·exact inB_mono k (by decide)
    ·rw [Pt.inB_iff] at k ⊢
     simp only [Pt.neg]
     omega
   ·intro e9
    exact g.1 (by
     have : (c.sub b).cross (a.sub b) = Pt.O := by show (Pt.cross (c.sub b) _) = _; rw [show c.sub b = Pt.O from e9]; simp [Pt.cross, Pt.O]
     rw [<- tri_turn]; exact this)
  let f : Pt -> Pt × Pt := fun q => if h : ∃ bc : Pt × Pt, bc ∈ pairsL t /\ ∃ a N, Sd (x :: t) bc.1 bc.2 N a /\ q = N.short /\ N.inB 4398046511104 = true /\ bc.2.sub bc.1 ≠ Pt.O then Classical.choose h else (Pt.O, Pt.O)
  have hf : ∀ q ∈ (sidesP (x :: t)).1, f q ∈ pairsL t /\ ∃ a N, Sd (x :: t) (f q).1 (f q).2 N a /\ q = N.short /\ N.inB 4398046511104 = true /\ (f q).2.sub (f q).1 ≠ Pt.O := by
   intro q hq
   have h := W q hq
   have e : f q = Classical.choose h := by simp only [f, dif_pos h]
   rw [e]
   exact Classical.choose_spec h
  have hk := fiber_le f 2 (pairsL t) (sidesP (x :: t)).1 (fun q hq => (hf q hq).1) (fun bc _ => by
   by_cases hl : ((sidesP (x :: t)).1.filter (fun q => decide (f q = bc))).length <= 2
   ·exact hl
   ·exfalso
    obtain ⟨q1, q2, q3, m1, m2, m3, n12, n13, n23⟩ := threeOf (List.Pairwise.filter _ (sides_eds (x :: t)).1) hl
    rw [List.mem_filter] at m1 m2 m3
    have e1 := of_decide_eq_true m1.2
    have e2 := of_decide_eq_true m2.2
    have e3 := of_decide_eq_true m3.2
    obtain ⟨_, a1, N1, s1, z1, i1, ne⟩ := hf q1 m1.1
    obtain ⟨_, a2, N2, s2, z2, i2, _⟩ := hf q2 m2.1
    obtain ⟨_, a3, N3, s3, z3, i3, _⟩ := hf q3 m3.1
    rw [e1] at s1 ne
    rw [e2] at s2
    rw [e3] at s3
    exact no_three s1 s2 s3 (apart_tri s2 s3 nf ne i2 i3 (by rw [<- z2, <- z3]; exact n23)) (apart_tri s3 s1 nf ne i3 i1 (by rw [<- z3, <- z1]; exact Ne.symm n13)) (apart_tri s1 s2 nf ne i1 i2 (by rw [<- z1, <- z2]; exact n12)))
  have := pairs_55 (L := t) (by simp at h12; omega)
  omega
open Classical in
theorem edges_count {L : List Pt} (h12 : L.length <= 12) : (sidesP L).2.length <= 66 := by
 obtain ⟨hn, hw⟩ := (sides_eds L).2
 let f : Pt -> Pt × Pt := fun q => if h : ∃ p ∈ pairsL L, q = (p.2.sub p.1).short then Classical.choose h else (Pt.O, Pt.O)
 have hf : ∀ q ∈ (sidesP L).2, f q ∈ pairsL L /\ q = ((f q).2.sub (f q).1).short := by
  intro q hq
  have h := hw q hq
  have e : f q = Classical.choose h := by simp only [f, dif_pos h]
  rw [e]
  exact Classical.choose_spec h
 have hk := fiber_le f 1 (pairsL L) (sidesP L).2 (fun q hq => (hf q hq).1) (fun bc _ => by
  by_cases hl : ((sidesP L).2.filter (fun q => decide (f q = bc))).length <= 1
  ·exact hl
  ·exfalso
   obtain ⟨q1, q2, m1, m2, n12⟩ := twoOf (List.Pairwise.filter _ hn) hl
   rw [List.mem_filter] at m1 m2
   have e1 := of_decide_eq_true m1.2
   have e2 := of_decide_eq_true m2.2
   exact n12 ((hf q1 m1.1).2.trans (by rw [e1, <- e2]; exact (hf q2 m2.1).2.symm)))
 have := pairs_66 h12
 omega
end
section
open Fx (isq isq_is isq_of)
def Pt.dbl (p : Pt) : Pt := ⟨2 * p.x, 2 * p.y, 2 * p.z⟩
def lngF : Nat -> Pt -> Pt
 | 0, p => p
 | n + 1, p => if p.inB 524288 then lngF n p.dbl else p
def Pt.lng (p : Pt) : Pt := if p.short = Pt.O then Pt.O else lngF 20 p.short
def Pt.far (p : Pt) (n : Nat) : Prop := 2 ^ n <= p.x.natAbs \/ 2 ^ n <= p.y.natAbs \/ 2 ^ n <= p.z.natAbs
theorem far_lt {q : Pt} {g : Nat} (hq : q.inB 524288 = true) (hb : q.far (20 - g)) : 1 <= g := by
 rw [Pt.inB_iff] at hq
 rcases Nat.eq_zero_or_pos g with rfl | h
 ·unfold Pt.far at hb
  simp only [Nat.sub_zero, Nat.reducePow] at hb
  omega
 ·exact h
theorem pow_two (n : Nat) : 2 ^ (n + 1) = 2 * 2 ^ n := by rw [Nat.pow_succ, Nat.mul_comm]
theorem far_dbl {q : Pt} {n : Nat} (hb : q.far n) : q.dbl.far (n + 1) := by
 unfold Pt.far Pt.dbl at *
 dsimp only
 rw [pow_two]
 have := hb
 generalize 2 ^ n = m at *
 omega
theorem far_zero {q : Pt} (h : q ≠ Pt.O) : q.far 0 := by
 unfold Pt.far
 simp only [Nat.pow_zero]
 by_cases hx : q.x = 0
 ·by_cases hy : q.y = 0
  ·by_cases hz : q.z = 0
   ·exact absurd (by cases q; simp only [Pt.O] at *; simp [hx, hy, hz]) h
   ·omega
  ·omega
 ·omega
theorem lngF_step {q : Pt} {g : Nat} (hq : q.inB 524288 = true) : lngF (g + 1) q = lngF g q.dbl := by simp [lngF, hq]
theorem lngF_stop {q : Pt} {g : Nat} (hq : q.inB 524288 = false) : lngF g q = q := by cases g <;> simp [lngF, hq]
theorem dbl_in {q : Pt} (h : q.inB 524288 = true) : q.dbl.inB 1048576 = true := by
 rw [Pt.inB_iff] at h ⊢
 unfold Pt.dbl
 dsimp only
 omega
theorem lngF_is : ∀ (g : Nat) (q : Pt), g <= 20 -> q.inB 1048576 = true -> q.far (20 - g) -> (lngF g q).inB 1048576 = true /\ (lngF g q).inB 524288 = false
 | 0, q, _, h, hb => by
  refine ⟨h, ?_⟩
  cases hq : q.inB 524288 with
  | false => exact hq
  | true => exact absurd (far_lt hq hb) (by omega)
 | g + 1, q, hg, h, hb => by
  cases hq : q.inB 524288 with
  | false => rw [lngF_stop hq]; exact ⟨h, hq⟩
  | true =>
   rw [lngF_step hq]
   exact lngF_is g q.dbl (by omega) (dbl_in hq) (by have := far_dbl hb; rwa [show 20 - (g + 1) + 1 = 20 - g by omega] at this)
theorem lng_is (p : Pt) : p.lng = Pt.O \/ (p.lng.inB 1048576 = true /\ p.lng.inB 524288 = false) := by
 unfold Pt.lng
 split
 ·exact Or.inl rfl
 ·next h => exact Or.inr (lngF_is 20 _ (Nat.le_refl _) (short_in p) (far_zero h))
theorem lng_in (p : Pt) : p.lng.inB 1048576 = true := by
 rcases lng_is p with h | h
 ·rw [h]; decide
 ·exact h.1
theorem sq0 (x : Int) : 0 <= x * x := by
 rcases Int.le_total 0 x with h | h
 ·exact Int.mul_nonneg h h
 ·have := Int.mul_nonneg (a := -x) (b := -x) (by omega) (by omega)
  rwa [Int.neg_mul_neg] at this
def dn (n : Pt) : Int := (isq (n.dot n).toNat : Int)
def up (n : Pt) : Int := if dn n * dn n = n.dot n then dn n else dn n + 1
theorem dot_self (n : Pt) : 0 <= n.dot n := by
 unfold Pt.dot
 have h1 := sq0 n.x
 have h2 := sq0 n.y
 have h3 := sq0 n.z
 omega
theorem dn_is (n : Pt) : 0 <= dn n /\ dn n * dn n <= n.dot n /\ n.dot n < (dn n + 1) * (dn n + 1) := by
 have h := isq_is (n.dot n).toNat
 have h0 := dot_self n
 unfold dn
 refine ⟨by omega, ?_, ?_⟩
 ·have : ((isq (n.dot n).toNat * isq (n.dot n).toNat : Nat) : Int) <= ((n.dot n).toNat : Int) := Int.ofNat_le.2 h.1
  rw [Int.natCast_mul] at this
  omega
 ·have : ((n.dot n).toNat : Int) < (((isq (n.dot n).toNat + 1) * (isq (n.dot n).toNat + 1) : Nat) : Int) := Int.ofNat_lt.2 h.2
  rw [Int.natCast_mul, Int.natCast_add, show ((1 : Nat) : Int) = 1 from rfl] at this
  have e : ((n.dot n).toNat : Int) = n.dot n := Int.toNat_of_nonneg h0
  omega
theorem dn_of {n : Pt} {r : Int} (h0 : 0 <= r) (h1 : r * r <= n.dot n) (h2 : n.dot n < (r + 1) * (r + 1)) : r = dn n := isq_of h0 h1 h2
def loK (n : Pt) (P : List Pt) : Nat -> Int
 | 0 => n.dot (pt P 0)
 | k + 1 => min (loK n P k) (n.dot (pt P (k + 1)))
def hiK (n : Pt) (P : List Pt) : Nat -> Int
 | 0 => n.dot (pt P 0)
 | k + 1 => max (hiK n P k) (n.dot (pt P (k + 1)))
def loP (n : Pt) (P : List Pt) : Int := loK n P (P.length - 1)
def hiP (n : Pt) (P : List Pt) : Int := hiK n P (P.length - 1)
theorem loK_eq (n : Pt) (P : List Pt) : ∀ k, ∃ i, i <= k /\ loK n P k = n.dot (pt P i)
 | 0 => ⟨0, Nat.le_refl _, rfl⟩
 | k + 1 => by
  obtain ⟨i, hi, e⟩ := loK_eq n P k
  simp only [loK]
  by_cases h : loK n P k <= n.dot (pt P (k + 1))
  ·exact ⟨i, by omega, by omega⟩
  ·exact ⟨k + 1, Nat.le_refl _, by omega⟩
theorem hiK_eq (n : Pt) (P : List Pt) : ∀ k, ∃ i, i <= k /\ hiK n P k = n.dot (pt P i)
 | 0 => ⟨0, Nat.le_refl _, rfl⟩
 | k + 1 => by
  obtain ⟨i, hi, e⟩ := hiK_eq n P k
  simp only [hiK]
  by_cases h : n.dot (pt P (k + 1)) <= hiK n P k
  ·exact ⟨i, by omega, by omega⟩
  ·exact ⟨k + 1, Nat.le_refl _, by omega⟩
theorem neg_dot (n p : Pt) : n.neg.dot p = -(n.dot p) := by unfold Pt.neg Pt.dot; dsimp only; simp only [Int.neg_mul]; omega
theorem hiK_neg (n : Pt) (P : List Pt) : ∀ k, hiK n.neg P k = -(loK n P k)
 | 0 => neg_dot _ _
 | k + 1 => by simp only [hiK, loK, hiK_neg n P k, neg_dot]; omega
theorem dot_inC {n p : Pt} {A B C : Int} (hn : n.inB A = true) (hp : p.inB B = true) (h : 3 * (A * B) <= C) : -C <= n.dot p /\ n.dot p <= C := by
 rw [Pt.inB_iff] at hn hp
 have h1 := mul_in hn.1 hp.1
 have h2 := mul_in hn.2.1 hp.2.1
 have h3 := mul_in hn.2.2 hp.2.2
 unfold Pt.dot
 omega
theorem loK_in {n : Pt} {P : List Pt} {A B C : Int} (hn : n.inB A = true) (hP : ∀ p ∈ P, p.inB B = true) (h : 3 * (A * B) <= C) (k : Nat) (hk : k < P.length) : -C <= loK n P k /\ loK n P k <= C := by
 obtain ⟨i, hi, e⟩ := loK_eq n P k
 rw [e]
 exact dot_inC hn (hP _ (pt_mem (by omega))) h
theorem hiK_in {n : Pt} {P : List Pt} {A B C : Int} (hn : n.inB A = true) (hP : ∀ p ∈ P, p.inB B = true) (h : 3 * (A * B) <= C) (k : Nat) (hk : k < P.length) : -C <= hiK n P k /\ hiK n P k <= C := by
 obtain ⟨i, hi, e⟩ := hiK_eq n P k
 rw [e]
 exact dot_inC hn (hP _ (pt_mem (by omega))) h
def room (n : Pt) (P Q : List Pt) : Int := loP n Q - hiP n P
def gap0 (n : Pt) (P Q : List Pt) : Int := if 0 <= room n P Q then (room n P Q).tdiv (up n) else -((dn n - 1 - room n P Q).tdiv (dn n))
def gapZ (P Q : List Pt) (r s : Int) (n : Pt) : Int := gap0 n P Q - r - s
structure Cr where
 P : List Pt
 A : List Pt
 E : List Pt
 r : Int
def mayC (c : Cr) : Bool := decide (1 <= c.P.length /\ c.P.length <= 32) && c.P.all (·.inB 16777216) && (decide (c.A.length <= 128) && c.A.all (·.inB 1048576)) && (decide (c.E.length <= 128) && c.E.all (·.inB 1048576)) && decide (0 <= c.r /\ c.r <= 65536)
def crossL (E F : List Pt) : List Pt := E.flatMap fun e => F.map fun f => e.cross f
def wayD (p q : Pt) : Pt := (q.sub p).short
def wayE (d e : Pt) : Pt := (e.cross d).short.cross e
def wayG (EE : List Pt) (p q : Pt) : List Pt := wayD p q :: EE.map fun e => wayE (wayD p q) e
def wayR (Q EE : List Pt) (p : Pt) : List Pt := Q.flatMap fun q => wayG EE p q
def wayL (P Q EE : List Pt) : List Pt := if 2 < P.length /\ 2 < Q.length then [] else P.flatMap fun p => wayR Q EE p
def candL (a b : Cr) : List Pt := (a.A ++ b.A) ++ (crossL a.E b.E ++ wayL a.P b.P (a.E ++ b.E))
def both : List Pt -> List Pt
 | [] => []
 | p :: r => if p.lng = Pt.O then both r else p.lng :: p.lng.neg :: both r
theorem both_app : ∀ A B : List Pt, both (A ++ B) = both A ++ both B
 | [], _ => rfl
 | p :: r, B => by simp only [List.cons_append, both, both_app r B]; split <;> rfl
abbrev Bs := Option (Pt × Int)
def bestS (g : Pt -> Int) (s : Bs) (n : Pt) : Bs := match s with
 | none => some (n, g n)
 | some (m, h) => if h < g n then some (n, g n) else some (m, h)
def bestL (g : Pt -> Int) (s : Bs) (L : List Pt) : Bs := L.foldl (bestS g) s
def told (a b : Cr) : Pt × Int := match bestL (gapZ a.P b.P a.r b.r) none (both (candL a b)) with
 | none => (⟨0, 0, 1048576⟩, -a.r - b.r)
 | some x => x
theorem pt_mid {A B C : List Pt} {j : Nat} (h : j < B.length) : pt (A ++ (B ++ C)) (A.length + j) = pt B j := by
 unfold pt
 rw [List.getElem?_append_right (by omega), List.getElem?_append_left (by omega)]
 congr 2
 omega
theorem pt_app {A B : List Pt} {j : Nat} : pt (A ++ B) (A.length + j) = pt B j := by
 unfold pt
 rw [List.getElem?_append_right (by omega)]
 congr 2
 omega
theorem pt_left {A B : List Pt} {j : Nat} (h : j < A.length) : pt (A ++ B) j = pt A j := by
 unfold pt
 rw [List.getElem?_append_left h]
theorem pt_map {L : List Pt} {f : Pt -> Pt} {j : Nat} (h : j < L.length) : pt (L.map f) j = f (pt L j) := by
 unfold pt
 simp [List.getElem?_map, List.getElem?_eq_getElem h]
theorem flat_part (f : Pt -> List Pt) (L : List Pt) {i : Nat} (h : i < L.length) : L.flatMap f = (L.take i).flatMap f ++ (f (pt L i) ++ (L.drop (i + 1)).flatMap f) := by
 have e : L = L.take i ++ pt L i :: L.drop (i + 1) := by rw [<- drop_pt h, List.take_append_drop]
 have e2 : L.flatMap f = (L.take i ++ pt L i :: L.drop (i + 1)).flatMap f := congrArg _ e
 rw [e2, List.flatMap_append, List.flatMap_cons]
theorem flat_next (f : Pt -> List Pt) (L : List Pt) {i : Nat} (h : i < L.length) : ((L.take (i + 1)).flatMap f).length = ((L.take i).flatMap f).length + (f (pt L i)).length := by
 rw [take_pt h, List.flatMap_append, List.length_append]
 simp
theorem flat_at (f : Pt -> List Pt) (L : List Pt) {i j : Nat} (h : i < L.length) (hj : j < (f (pt L i)).length) : pt (L.flatMap f) (((L.take i).flatMap f).length + j) = pt (f (pt L i)) j := by
 rw [flat_part f L h]
 exact pt_mid hj
theorem flat_lt (f : Pt -> List Pt) (L : List Pt) {i j : Nat} (h : i < L.length) (hj : j < (f (pt L i)).length) : ((L.take i).flatMap f).length + j < (L.flatMap f).length := by
 rw [flat_part f L h, List.length_append, List.length_append]
 omega
end
section
open Go.RowKit Go.Shelf
theorem dirs_len (m : M9) (A : List Pt) : (m.dirs A).length <= A.length := by
 unfold M9.dirs
 have := List.length_filter_le (fun p => decide (p ≠ Pt.O)) (A.map m.dirV)
 rw [List.length_map] at this
 exact this
theorem dirs_in (m : M9) (A : List Pt) : ∀ p ∈ m.dirs A, p.inB 1048576 = true := by
 intro p hp
 unfold M9.dirs at hp
 rw [List.mem_filter, List.mem_map] at hp
 obtain ⟨⟨x, _, rfl⟩, _⟩ := hp
 exact short_in _
theorem nodup_ne {L : List Pt} (h2 : 2 <= L.length) (h : L.Nodup) : pt L 0 ≠ pt L 1 := by
 match L, h2, h with
 | a :: b :: r, _, h =>
  intro e
  have e2 : a = b := e
  subst e2
  simp at h
theorem good_few {s : Sh} (h : Good s) : (axesP s).length <= 110 /\ (edgesP s).length <= 66 := by
 unfold axesP edgesP
 by_cases h3 : s.kind = 3
 ·have h2 : ¬ s.kind = 2 := by omega
  rw [if_pos h3, if_neg h2, if_pos h3]
  exact ⟨by decide, by decide⟩
 ·rw [if_neg h3]
  by_cases h4 : s.kind = 4
  ·have h2 : ¬ s.kind = 2 := by omega
   rw [if_pos h4, if_neg h2, if_neg h3, if_pos h4]
   have hk := h.ok
   unfold checkP at hk
   cases hf : formP s with
   | false => rw [hf] at hk; simp at hk
   | true =>
    rw [hf] at hk
    obtain ⟨l4, l12, hin, hnd⟩ := may_parts (form_hull hf h4)
    have nf : ¬ flatAll s.pts := by
     intro hfl
     have hne := nodup_ne (by omega) hnd
     have := (flatP_iff (by omega) hne).2 hfl
     simp [h4, this] at hk
    exact ⟨axes_count l12 hin hnd nf, edges_count l12⟩
  ·rw [if_neg h4]
   refine ⟨by simp, ?_⟩
   rw [if_neg h3, if_neg h4]
   split <;> simp
theorem came_may {s : Sh} {t : Pt} {q : Q4} {P2 A2 E2 : List Pt} (h : Good s) (hc : Came t q (ptsP s) (axesP s) (edgesP s) P2 A2 E2) : mayC ⟨P2, A2, E2, s.radius⟩ = true := by
 obtain ⟨f1, f2⟩ := good_few h
 have g1 := gd_len h
 have g2 := gd_pts h
 have a1 : A2.length <= 128 := by rw [hc.a]; have := dirs_len (rowsM q) (axesP s); omega
 have e1 : E2.length <= 128 := by rw [hc.e]; have := dirs_len (rowsM q) (edgesP s); omega
 have a2 : ∀ p ∈ A2, p.inB 1048576 = true := by rw [hc.a]; exact dirs_in _ _
 have e2 : ∀ p ∈ E2, p.inB 1048576 = true := by rw [hc.e]; exact dirs_in _ _
 have p2 : ∀ p ∈ P2, p.inB 16777216 = true := fun p hp => inB_mono (hc.near p hp) (by decide)
 have l1 := hc.len
 have r1 := h.r
 unfold mayC
 simp only [Bool.and_eq_true, decide_eq_true_eq, List.all_eq_true]
 exact ⟨⟨⟨⟨by omega, p2⟩, a1, a2⟩, e1, e2⟩, by omega⟩
theorem rplace_right (t : Pt) (q : Q4) (ht : t.inB 5497558138880 = true) (hw : WM.Whole q.w q.x q.y q.z) (P A E : List Pt) (h0 : 0 < P.length) (hP : ∀ p ∈ P, p.inB 65536 = true) (hA : ∀ p ∈ A, p ≠ Pt.O /\ p.short = p) (hE : ∀ p ∈ E, p ≠ Pt.O /\ p.short = p) (nP : P.length < 1099511627776) (nA : A.length < 1099511627776) (nE : E.length < 1099511627776)
  (r : Int) (o o2 o3 : Option Addr) (c c2 c3 : Nat) (W : World) (l1 : Lies W (.slice o P.length c) P) (l2 : Lies W (.slice o2 A.length c2) A) (l3 : Lies W (.slice o3 E.length c3) E) :
  Calls Try.prog 38 #[.agg #[.slice o P.length c, .slice o2 A.length c2, .slice o3 E.length c3, .int .i64 r], poseV t q] W fun e W' => ∃ (P2 A2 E2 : List Pt) (vp va ve : Value), e = .returned (.tuple #[.agg #[vp, va, ve, .int .i64 r], .bool true]) /\ Three W W' vp va ve P2 A2 E2 /\ Came t q P A E P2 A2 E2 := by
 have hc := rplace_any t q P A E r _ _ _ W l1 l2 l3 nP nA nE
 rw [place_ok hw ht h0 hP (fun p hp => (short_g (hA p hp).1 (hA p hp).2).2) (fun p hp => (short_g (hE p hp).1 (hE p hp).2).2)] at hc
 refine Calls.mono hc ?_
 rintro e W' ⟨vp, va, ve, _, h⟩
 obtain ⟨rfl, h3⟩ := h rfl
 refine ⟨_, _, _, vp, va, ve, rfl, h3, rfl, rfl, rfl, List.length_map _, fun p hp => ?_⟩
 obtain ⟨x, hx, rfl⟩ := List.mem_map.1 hp
 obtain ⟨_, _, _, _, _, e9⟩ := point_some (rows_fit hw).2 ht (hP x hx)
 exact e9
end
section
open Go.RowKit Go.Shelf
structure KeepC (S : Nat -> Prop) (V V' : World) : Prop where
 size : V.heap.size <= V'.heap.size
 cell : ∀ (q : Addr) (v : Value), S q.block -> V.cell? q = some v -> V'.cell? q = some v
theorem KeepC.refl (S : Nat -> Prop) (V : World) : KeepC S V V := ⟨Nat.le_refl _, fun _ _ _ h => h⟩
theorem KeepC.trans {S : Nat -> Prop} {A B C : World} (h : KeepC S A B) (k : KeepC S B C) : KeepC S A C := ⟨Nat.le_trans h.size k.size, fun q v hq hv => k.cell q v hq (h.cell q v hq hv)⟩
theorem KeepC.mono {S T : Nat -> Prop} {A B : World} (h : KeepC S A B) (hT : ∀ b, T b -> S b) : KeepC T A B := ⟨h.size, fun q v hq hv => h.cell q v (hT _ hq) hv⟩
theorem KeepC.below {S : Nat -> Prop} {A B : World} (h : Below A.heap.size A B) : KeepC S A B := ⟨h.size, fun _ _ _ hv => c_after h hv⟩
theorem KeepC.grown {S : Nat -> Prop} {A B : World} (h : A.grownBy B none) : KeepC S A B := ⟨h.size, fun q v _ hv => h.cell hv (fun e => by cases e)⟩
theorem KeepC.put {S : Nat -> Prop} {W : World} {l : Nat} {o : Obj} (o' : Obj) (hl : W.heap[l]? = some o) (hc : o.isCells = false) : KeepC S W (W.putObj l o') :=
 ⟨by simp, fun q v _ hv => by
  have hne : q.block ≠ l := fun e => by
   unfold World.cell? at hv
   rw [e, hl] at hv
   cases o <;> simp_all [Obj.isCells]
  exact (World.cell?_of_block (w := W) (World.putObj_heap_other hne)).trans hv⟩
theorem Lies.keepC {S : Nat -> Prop} {A B : World} {v : Value} {L : List Pt} (h : Lies A v L) (k : KeepC S A B) (hS : ∀ q n c, v = .slice (some q) n c -> L ≠ [] -> S q.block) : Lies B v L := by
 obtain ⟨o, cap, rfl, h1, h2, h3⟩ := h.form
 refine ⟨⟨o, cap, rfl, h1, h2, fun i hi => ?_⟩⟩
 obtain ⟨g, off, rfl, x0, x1, x2⟩ := h3 i hi
 have hs : S g := hS _ _ _ rfl (fun e => by rw [e] at hi; simp at hi)
 exact ⟨g, off, rfl, k.cell _ _ hs x0, k.cell _ _ hs x1, k.cell _ _ hs x2⟩
theorem own_step {n : Nat} {J : Nat -> World -> Prop} (hJ : OwnFrom n J) {k : Nat} {A B : World} (h : J k A) (hb : Below A.heap.size A B) : J k B :=
 hJ k A B none h (below_grown hb none) (fun r e => by cases e)
def TellsT (n : Nat) (P : Program) (g : Nat) (lb : Array Value) (T : List Pt) (S : Nat -> Prop) (w : World) : Prop :=
 ∀ (l : Nat) (J : Nat -> World -> Prop) (W : World), Below w.heap.size w W -> OwnFrom W.heap.size J ->
  (∀ k V, k < T.length -> J k V -> YieldAt Fence.wide (n - 1) P l #[(pt T k).v] V fun e V' => e = .returned (.bool true) /\ J (k + 1) V' /\ KeepC S V V' /\ KeepsFrom (w.heap.size + 2) V V') ->
  J 0 W -> CallsIn Fence.wide n P g (#[.func (.yield l) #[] #[]] ++ lb) W fun e W' => (∃ v, e = .returned v) /\ J T.length W'
def postT (B : Nat) (S : Nat -> Prop) (I : Nat -> World -> Prop) (k : Nat) (W : World) : Exit -> Act -> World -> Prop
 | .normal, _, W' => KeepsFrom B W W' /\ KeepC S W W' /\ I k W'
 | _, _, _ => False
theorem range_t {n : Nat} {P : Program} (h1 : 1 <= n) {g : Operand} {ps : Array Tmp} {assign body : Code} {Q : Exit -> Act -> World -> Prop} {a : Act} {w : World} {gf : Nat} {lb : Array Value}
  (hg : a.eval g = .func (.func gf) #[] lb) (eg : ∀ args w, (callFunc gf args).run P w = .ok (.enter gf args) w)
  {T : List Pt} {S : Nat -> Prop} (hseq : TellsT (n - 1) P gf lb T S w) (hps : ps.size = 1)
  (I : Nat -> World -> Prop) (hI : OwnFrom w.heap.size I) (h0 : I 0 w) (a₁ : Nat -> Nat -> Act) (tp : TypeId)
  (hassign : ∀ (l k : Nat) (W : World) (nb : Nat) (K : Act -> World -> Prop), k < T.length -> nb = W.heap.size -> K (a₁ k nb) (W.alloc (.cells #[.int .i64 (pt T k).x, .int .i64 (pt T k).y, .int .i64 (pt T k).z] tp)) ->
   assign.wpIn (Fence.wide.inRound l) (n - 1 - 1) P (Exit.then K (fun _ _ _ => False)) { tmps := (ps.zip #[(pt T k).v]).foldl (fun t (p, v) => t.setIfInBounds p v) a.tmps, defers := [] } W)
  (hbody : ∀ (l k : Nat) (W : World) (nb : Nat), k < T.length -> (∀ Z : World, W.grownBy Z (some nb) -> I k Z) -> w.heap.size <= nb -> W.heap[nb]? = some (.cells #[.int .i64 (pt T k).x, .int .i64 (pt T k).y, .int .i64 (pt T k).z] tp) -> body.wpIn (Fence.wide.inRound l) (n - 1 - 1) P (postT w.heap.size (fun b => S b /\ b ≠ nb) I (k + 1) W) (a₁ k nb) W)
  (hdone : ∀ (D : Nat) (W : World), w.heap.size <= D -> I T.length W -> W.heap[D]? = some (.deferred (some [])) -> Q .normal { a with defers := { target := .collected D, args := #[] } :: a.defers } W) :
  (Code.rangeFunc g ps assign body).wpIn Fence.wide n P Q a w := by
 refine wpIn_rangeFunc fun fn hfn => ?_
 show ∃ _, _
 generalize hD : w.heap.size = D at *
 let R (st : LoopState) (pe : Option Code) : Loop := ⟨st, pe, fn, a.tmps, ps, assign, body, D⟩
 let V : World := (w.alloc (.deferred (some []))).alloc (.loop (R .ready none))
 have sV : V.heap.size = D + 2 := by simp [V, hD]
 have rV : V.heap[D + 1]? = some (.loop (R .ready none)) := by
  have := World.alloc_heap_new (w.alloc (.deferred (some []))) (.loop (R .ready none))
  rwa [World.size_alloc, hD] at this
 have dV : V.heap[D]? = some (.deferred (some [])) := by
  have := World.alloc_heap_new w (.deferred (some []))
  rw [hD] at this
  exact (Below.heap_alloc _ _ _ (by simp; omega)).trans this
 have iV : I 0 V := hI.alloc _ (hI.alloc _ h0)
 have bV : Below w.heap.size w V := ((Below.refl _ w).alloc (Nat.le_refl _) _).alloc (by simp) _
 have keep : ∀ {X Y : World} {row : Option Nat} {k : Nat} {o : Obj}, X.grownBy Y row -> (∀ r, row = some r -> V.heap.size <= r /\ ∃ o : Obj, X.heap[r]? = some o /\ o.isCells = false) -> k < D + 2 -> X.heap[k]? = some o -> Y.heap[k]? = some o := by
  intro X Y row k o hXY hr hk hX
  refine (hXY.block k (Array.getElem?_eq_some_iff.1 hX).1 fun e => ?_).trans hX
  have := (hr k e.symm).1
  omega
 have wide : ∀ {X : World} {row : Option Nat}, (∀ r, row = some r -> V.heap.size <= r /\ ∃ o : Obj, X.heap[r]? = some o /\ o.isCells = false) -> ∀ r, row = some r -> D <= r /\ ∃ o : Obj, X.heap[r]? = some o /\ o.isCells = false :=
  fun hr r e => ⟨by have := (hr r e).1; omega, (hr r e).2⟩
 refine ⟨D + 1, [{ target := .collected D, args := #[] }], V, { target := .fn (.func gf) lb, args := #[.func (.yield (D + 1)) #[] #[]] }, V, gf, #[.func (.yield (D + 1)) #[] #[]] ++ lb, V, ?_, ?_, fun _ _ => trivial, ?_, fun _ => h1, ?_⟩
 ·have := run_enterLoop_outer (P := P) (w := w) fn a.tmps ps assign body
  rw [hD] at this
  exact this
 ·simp only [resolve, hg]
  simp [go_sem]
 ·simp [invoke, go_sem, eg]
 refine (hseq (D + 1) (fun k W => I k W /\ W.heap[D + 1]? = some (.loop (R .ready none)) /\ W.heap[D]? = some (.deferred (some []))) V (hD ▸ bV)
  (fun s A B row hs hAB hr => ⟨hI s A B row hs.1 hAB (wide hr), keep hAB hr (by omega) hs.2.1, keep hAB hr (by omega) hs.2.2⟩) ?_ ⟨iV, rV, dV⟩).mono ?_
 ·skip
  rintro k X hk ⟨iX, rX, dX⟩
  have ltX : D + 1 < X.heap.size := (Array.getElem?_eq_some_iff.1 rX).1
  obtain ⟨X1, hX1⟩ : ∃ X1, X1 = X.alloc (.cells #[.int .i64 (pt T k).x, .int .i64 (pt T k).y, .int .i64 (pt T k).z] tp) := ⟨_, rfl⟩
  have gX : X.grownBy X1 none := by rw [hX1]; exact World.grownBy_alloc X _ none
  have up : ∀ {j : Nat} {o : Obj}, X.heap[j]? = some o -> X1.heap[j]? = some o := fun hX => (gX.block _ (Array.getElem?_eq_some_iff.1 hX).1 (fun e => by cases e)).trans hX
  have rX1 := up rX
  have dX1 := up dX
  have iX1 : I k X1 := hI k X X1 none iX gX (fun r e => by cases e)
  have ltX1 : D + 1 < X1.heap.size := (Array.getElem?_eq_some_iff.1 rX1).1
  have oX1 : X1.heap[X.heap.size]? = some (.cells #[.int .i64 (pt T k).x, .int .i64 (pt T k).y, .int .i64 (pt T k).z] tp) := by rw [hX1]; exact World.alloc_heap_new X _
  refine ⟨fn, _, assign, body, run_yield (P := P) (args := #[(pt T k).v]) rX (by simp [R, hps]), roundIn_of_wpIn hfn (hassign _ k X _ _ hk rfl ?_)⟩
  rw [<- hX1]
  refine ⟨_, run_beginRound rX1 rfl, ?_⟩
  let Y : World := X1.putObj (D + 1) (.loop { R .ready none with state := .busy })
  have rY : Y.heap[D + 1]? = some (.loop { R .ready none with state := .busy }) := World.putObj_heap_same ltX1
  have dY : Y.heap[D]? = some (.deferred (some [])) := (World.putObj_heap_other (by omega)).trans dX1
  have gY : X1.grownBy Y (some (D + 1)) := grownBy_putObj' X1 (D + 1) _
  have iZ0 : ∀ Z : World, Y.grownBy Z (some X.heap.size) -> I k Z := fun Z hZ => by
   refine hI k X Z (some (D + 1)) iX ⟨hZ.os.trans (gY.os.trans gX.os), hZ.tape.trans (gY.tape.trans gX.tape), hZ.output.trans (gY.output.trans gX.output), Nat.le_trans gX.size (Nat.le_trans gY.size hZ.size), fun j hj hn => ?_⟩ (fun r e => by cases e; exact ⟨by omega, _, rX, rfl⟩)
   have hs1 := gX.size
   have hs2 := gY.size
   exact (hZ.block j (by omega) (fun e => by cases e; omega)).trans ((gY.block j (by omega) hn).trans (gX.block j hj (fun e => by cases e)))
  refine wpIn_mono (hbody _ k Y X.heap.size hk iZ0 (by omega) ((World.putObj_heap_other (by omega)).trans oX1)) ?_
  have far : ∀ (o : Obj) (Z : World), KeepsFrom D Y Z -> KeepsFrom (D + 2) X (Z.putObj (D + 1) o) := fun o Z hZ =>
   ⟨by have h9 := hZ.size; have h8 := gX.size; simp [Y] at h9 ⊢; omega, fun j o' hj hX ho => (World.putObj_heap_other (by omega)).trans (hZ.same j o' (by omega) ((World.putObj_heap_other (by omega)).trans (up hX)) ho)⟩
  have ends : ∀ (jump : Option Code) (Z : World), KeepsFrom D Y Z -> (Instr.endRound (D + 1) jump).run P Z = .ok (.bool jump.isNone) (Z.putObj (D + 1) (.loop (R (if jump.isNone then .ready else .done) jump))) /\ Z.heap[D + 1]? = some (.loop { R .ready none with state := .busy }) /\
    (Z.putObj (D + 1) (.loop (R (if jump.isNone then .ready else .done) jump))).heap[D + 1]? = some (.loop (R (if jump.isNone then .ready else .done) jump)) /\ (Z.putObj (D + 1) (.loop (R (if jump.isNone then .ready else .done) jump))).heap[D]? = some (.deferred (some [])) := by
   intro jump Z hZ
   have rZ := hZ.same _ _ (by omega) rY rfl
   exact ⟨run_endRound (P := P) jump rZ, rZ, World.putObj_heap_same (Array.getElem?_eq_some_iff.1 rZ).1, (World.putObj_heap_other (by omega)).trans (hZ.same _ _ (Nat.le_refl _) dY rfl)⟩
  intro e a3 Z hp
  cases e with
  | normal =>
   obtain ⟨hZ, kZ, iZ⟩ := hp
   obtain ⟨e1, e2, e3, e4⟩ := ends none Z hZ
   exact ⟨_, _, e1, rfl, ⟨hI.putObj _ iZ (by omega) e2 rfl, e3, e4⟩, (⟨Nat.le_trans gX.size (Nat.le_trans gY.size kZ.size), fun q v hq hv => kZ.cell q v ⟨hq, fun e => by have := World.block_lt_of_cell? _ _ hv; omega⟩ (((KeepC.grown (S := S) gX).trans (KeepC.put _ rX1 rfl)).cell q v hq hv)⟩ : KeepC S X Z).trans (KeepC.put _ e2 rfl), hD ▸ far _ Z hZ⟩
  | ret => exact hp.elim
  | exit id => exact hp.elim
  | goto t => exact hp.elim
  | panic ch => exact hp.elim
  | outgrown => exact hp.elim
 ·rintro e X ⟨⟨v, rfl⟩, iX, rX, dX⟩
  exact ⟨none, _, run_endLoop (P := P) rX (by simp [R]), hdone D _ (Nat.le_refl _) (hI.putObj _ iX (by omega) rX rfl) ((World.putObj_heap_other (by omega)).trans dX)⟩
end
end Go.Proofs.Ytccdgpijjgeedaa
