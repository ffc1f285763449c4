/- Points of one plane; a hull's sides: plain numbers. -/
import Derived.Test.YtccdgpijjgeedaaSMath
namespace Go.Proofs.Ytccdgpijjgeedaa
set_option linter.unusedVariables false

theorem Pt.ne_O {n : Pt} (h : n ≠ Pt.O) : n.x ≠ 0 ∨ n.y ≠ 0 ∨ n.z ≠ 0 := by
  cases n with
  | mk a b c =>
    simp only [Pt.O, ne_eq, Pt.mk.injEq] at h
    dsimp only
    omega
/-- Three ways across which one way stands are of one plane. -/
theorem det_plane {n x y z : Pt} (hn : n ≠ Pt.O) (h1 : n.dot x = 0) (h2 : n.dot y = 0) (h3 : n.dot z = 0) : (x.cross y).dot z = 0 := by
  have i1 : (x.cross y).dot z * n.x = n.dot x * (y.cross z).x + n.dot y * (z.cross x).x + n.dot z * (x.cross y).x := by simp only [Pt.dot, Pt.cross]; grind
  have i2 : (x.cross y).dot z * n.y = n.dot x * (y.cross z).y + n.dot y * (z.cross x).y + n.dot z * (x.cross y).y := by simp only [Pt.dot, Pt.cross]; grind
  have i3 : (x.cross y).dot z * n.z = n.dot x * (y.cross z).z + n.dot y * (z.cross x).z + n.dot z * (x.cross y).z := by simp only [Pt.dot, Pt.cross]; grind
  rw [h1, h2, h3] at i1 i2 i3
  simp only [Int.zero_mul, Int.add_zero] at i1 i2 i3
  rcases Pt.ne_O hn with h | h | h
  · exact (Int.mul_eq_zero.1 i1).resolve_right h
  · exact (Int.mul_eq_zero.1 i2).resolve_right h
  · exact (Int.mul_eq_zero.1 i3).resolve_right h
theorem cross_line {u x y : Pt} (hu : u ≠ Pt.O) (h1 : u.cross x = Pt.O) (h2 : u.cross y = Pt.O) : x.cross y = Pt.O := by
  simp only [Pt.cross, Pt.O, Pt.mk.injEq] at *
  obtain ⟨a1, a2, a3⟩ := h1
  obtain ⟨b1, b2, b3⟩ := h2
  have key : ∀ k : Int, (k = u.x ∨ k = u.y ∨ k = u.z) → k * (x.y * y.z - x.z * y.y) = 0 ∧ k * (x.z * y.x - x.x * y.z) = 0 ∧ k * (x.x * y.y - x.y * y.x) = 0 := by
    intro k hk
    rcases hk with rfl | rfl | rfl
    · refine ⟨by grind, by grind, by grind⟩
    · refine ⟨by grind, by grind, by grind⟩
    · refine ⟨by grind, by grind, by grind⟩
  have : ∃ k : Int, k ≠ 0 ∧ (k = u.x ∨ k = u.y ∨ k = u.z) := by
    rcases Pt.ne_O hu with h | h | h
    · exact ⟨_, h, Or.inl rfl⟩
    · exact ⟨_, h, Or.inr (Or.inl rfl)⟩
    · exact ⟨_, h, Or.inr (Or.inr rfl)⟩
  obtain ⟨k, h0, hk⟩ := this
  obtain ⟨c1, c2, c3⟩ := key k hk
  exact ⟨(Int.mul_eq_zero.1 c1).resolve_left h0, (Int.mul_eq_zero.1 c2).resolve_left h0, (Int.mul_eq_zero.1 c3).resolve_left h0⟩
/-- Six times the volume between four points. -/
def vol (p q r s : Pt) : Int := ((q.sub p).cross (r.sub p)).dot (s.sub p)
def flatP (L : List Pt) : Bool := L.all fun c => L.all fun m => decide (vol (pt L 0) (pt L 1) c m = 0)
def flatAll (L : List Pt) : Prop := ∀ p ∈ L, ∀ q ∈ L, ∀ r ∈ L, ∀ s ∈ L, vol p q r s = 0
theorem sub_O {a b : Pt} (h : a ≠ b) : b.sub a ≠ Pt.O := by
  intro e
  cases a; cases b
  simp only [Pt.sub, Pt.O, Pt.mk.injEq, ne_eq] at *
  omega
theorem flatP_iff {L : List Pt} (h2 : 2 ≤ L.length) (hne : pt L 0 ≠ pt L 1) : flatP L = true ↔ flatAll L := by
  have m0 : pt L 0 ∈ L := pt_mem (by omega)
  have m1 : pt L 1 ∈ L := pt_mem (by omega)
  constructor
  · intro h
    have hv : ∀ c ∈ L, ∀ m ∈ L, vol (pt L 0) (pt L 1) c m = 0 := by
      intro c hc m hm
      have := List.all_eq_true.1 (List.all_eq_true.1 h c hc) m hm
      simpa using this
    generalize pt L 0 = a at *
    generalize pt L 1 = b at *
    have hu := sub_O hne
    intro p hp q hq r hr s hs
    by_cases hc : ∃ c ∈ L, (b.sub a).cross (c.sub a) ≠ Pt.O
    · obtain ⟨c, hc, hn⟩ := hc
      have d : ∀ m ∈ L, ((b.sub a).cross (c.sub a)).dot (m.sub a) = 0 := fun m hm => hv c hc m hm
      generalize (b.sub a).cross (c.sub a) = n at *
      have dd : ∀ m ∈ L, n.dot (m.sub p) = 0 := by
        intro m hm
        have e1 := d m hm
        have e2 := d p hp
        have : n.dot (m.sub p) = n.dot (m.sub a) - n.dot (p.sub a) := by simp only [Pt.dot, Pt.sub]; grind
        rw [this, e1, e2]; rfl
      exact det_plane hn (dd q hq) (dd r hr) (dd s hs)
    · have hl : ∀ c ∈ L, (b.sub a).cross (c.sub a) = Pt.O := fun c hcl => Classical.byContradiction fun e => hc ⟨c, hcl, e⟩
      have ll : ∀ c ∈ L, (b.sub a).cross (c.sub p) = Pt.O := by
        intro c hcl
        have e1 := hl c hcl
        have e2 := hl p hp
        generalize b.sub a = u at *
        simp only [Pt.cross, Pt.sub, Pt.O, Pt.mk.injEq] at *
        refine ⟨by grind, by grind, by grind⟩
      have := cross_line hu (ll q hq) (ll r hr)
      unfold vol
      rw [this]
      simp [Pt.dot, Pt.O]
  · intro h
    refine List.all_eq_true.2 fun c hc => List.all_eq_true.2 fun m hm => ?_
    simpa using h _ m0 _ m1 c hc m hm
/-- As the document's own answer asks it: each three, by rising places. -/
def flatR (L : List Pt) : Prop := ∀ i k m o, m < k → k < i → i < L.length → o < L.length → vol (pt L m) (pt L k) (pt L i) (pt L o) = 0
theorem flatR_iff {L : List Pt} (h2 : 2 ≤ L.length) (hne : pt L 0 ≠ pt L 1) : flatR L ↔ flatP L = true := by
  constructor
  · intro h
    refine List.all_eq_true.2 fun c hc => List.all_eq_true.2 fun m hm => ?_
    obtain ⟨i, hi, rfl⟩ := pt_of_mem hc
    obtain ⟨o, ho, rfl⟩ := pt_of_mem hm
    by_cases e0 : i = 0
    · subst e0
      rw [decide_eq_true_eq]
      simp only [vol, Pt.cross, Pt.sub, Pt.dot]
      grind
    · by_cases e1 : i = 1
      · subst e1
        rw [decide_eq_true_eq]
        simp only [vol, Pt.cross, Pt.sub, Pt.dot]
        grind
      · simpa using h i 1 0 o (by omega) (by omega) hi ho
  · intro h i k m o h1 h3 hi ho
    exact (flatP_iff h2 hne).1 h _ (pt_mem (by omega)) _ (pt_mem (by omega)) _ (pt_mem hi) _ (pt_mem ho)
theorem flatAll_perm {L M : List Pt} (h : ∀ p, p ∈ L ↔ p ∈ M) : flatAll L ↔ flatAll M := by
  unfold flatAll
  constructor
  · intro k p hp q hq r hr s hs; exact k p ((h p).2 hp) q ((h q).2 hq) r ((h r).2 hr) s ((h s).2 hs)
  · intro k p hp q hq r hr s hs; exact k p ((h p).1 hp) q ((h q).1 hq) r ((h r).1 hr) s ((h s).1 hs)

/-! A hull's sides. -/
def above (L : List Pt) (n a : Pt) : Bool := L.any fun m => decide (0 < n.dot (m.sub a))
def below (L : List Pt) (n a : Pt) : Bool := L.any fun m => decide (n.dot (m.sub a) < 0)
def withAxisP (A : List Pt) (n : Pt) : List Pt := if n ∈ A then A else A ++ [n]
def withEdgeP (E : List Pt) (e : Pt) : List Pt := if e.short ∈ E ∨ e.short.neg ∈ E then E else E ++ [e.short]
def withEdgesP (E : List Pt) (more : List Pt) : List Pt := more.foldl withEdgeP E
def triP (L : List Pt) (a b c : Pt) (s : List Pt × List Pt) : List Pt × List Pt :=
  let n := (b.sub a).cross (c.sub a)
  if n = Pt.O ∨ (above L n a = true ∧ below L n a = true) then s
  else (withAxisP s.1 (if above L n a then n.neg else n).short, withEdgesP s.2 [b.sub a, c.sub a, c.sub b])
def innerP (L : List Pt) (a b : Pt) : List Pt → List Pt × List Pt → List Pt × List Pt
  | [], s => s
  | c :: r, s => innerP L a b r (triP L a b c s)
def midP (L : List Pt) (a : Pt) : List Pt → List Pt × List Pt → List Pt × List Pt
  | [], s => s
  | b :: r, s => midP L a r (innerP L a b r s)
def outerP (L : List Pt) : List Pt → List Pt × List Pt → List Pt × List Pt
  | [], s => s
  | a :: r, s => outerP L r (midP L a r s)
def sidesP (L : List Pt) : List Pt × List Pt := outerP L L ([], [])
end Go.Proofs.Ytccdgpijjgeedaa
