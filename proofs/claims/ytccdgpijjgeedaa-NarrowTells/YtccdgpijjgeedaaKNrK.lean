/- What layer 9's statements call besides: pick, and the document's own Minus, Dot and Cross of wide points. -/
import Derived.Test.YtccdgpijjgeedaaKNrJ
namespace Go.Proofs.Ytccdgpijjgeedaa
open Go.RowKit Go.Shelf
set_option linter.unusedVariables false

def pickY (c n : Int) : Int := (if c < 0 then -(c + 1) else c) % n
theorem pickY_lo (c : Int) {n : Int} (hn : 0 < n) : 0 ≤ pickY c n := Int.emod_nonneg _ (by omega)
theorem pickY_hi (c : Int) {n : Int} (hn : 0 < n) : pickY c n < n := Int.emod_lt_of_pos _ hn
theorem npick_any (c n : Int) (w : World) (hc : -9223372036854775808 ≤ c ∧ c ≤ 9223372036854775807) (hn : 0 < n) (hn' : n ≤ 9223372036854775807) :
    Calls Try.prog 18 #[.int .i64 c, .int .i64 n] w fun e w' => e = .returned (.int .i64 (pickY c n)) ∧ w' = w := by
  unfold pickY
  by_cases h : c < 0
  · have hb : 0 ≤ -(c + 1) := by omega
    have hb' : -(c + 1) ≤ 9223372036854775807 := by omega
    have hz : (n == 0) = false := beq_eq_false_iff_ne.2 (by omega)
    rw [if_pos h]
    go_enter Try.func18, Try.ntmps18
    go_wp2
    go_ret
    have e : (c + 1).tmod n = -(-(c + 1) % n) := by
      rw [← Int.tmod_eq_emod_of_nonneg hb, Int.neg_tmod, Int.neg_neg]
    exact ⟨by rw [e, Int.neg_neg]; rfl, rfl⟩
  · have hz : (n == 0) = false := beq_eq_false_iff_ne.2 (by omega)
    rw [if_neg h]
    go_enter Try.func18, Try.ntmps18
    go_wp2
    go_ret
    exact ⟨rfl, rfl⟩
theorem npick_below (c n : Int) (w : World) (hc : -9223372036854775808 ≤ c ∧ c ≤ 9223372036854775807) (hn : 0 < n) (hn' : n ≤ 9223372036854775807) :
    Calls Try.prog 18 #[.int .i64 c, .int .i64 n] w fun e w' => e = .returned (.int .i64 (pickY c n)) ∧ Below w.heap.size w w' :=
  Calls.mono (npick_any c n w hc hn hn') (by rintro e w2 ⟨rfl, rfl⟩; exact ⟨rfl, Below.refl _ _⟩)
set_option maxHeartbeats 1000000 in
theorem nminus_any (p q : Pt) (w : World) (hp : p.inB 1152921504606846976 = true) (hq : q.inB 1152921504606846976 = true) :
    Calls Try.prog 39 #[p.v, q.v] w fun e W => e = .returned (p.sub q).v ∧ Below w.heap.size w W := by
  obtain ⟨x, y, z⟩ := p
  obtain ⟨x', y', z'⟩ := q
  rw [Pt.inB_iff] at hp hq
  unfold Pt.v Pt.sub
  dsimp only at *
  go_enter Try.func39, Try.ntmps39
  go_wp2
  exact bodyPost_ret (v := .agg #[.int .i64 (x - x'), .int .i64 (y - y'), .int .i64 (z - z')]) (by simp [results, Try.results39, go_sem]) rfl ⟨rfl, (((Below.refl _ w).alloc (Nat.le_refl _) _).alloc (by simp) _).alloc (by simp; omega) _⟩
set_option maxHeartbeats 1000000 in
theorem nrdot_any (p q : Pt) (w : World) (hp : p.inB 536870912 = true) (hq : q.inB 536870912 = true) :
    Calls Try.prog 30 #[p.v, q.v] w fun e W => e = .returned (.int .i64 (p.dot q)) ∧ Below w.heap.size w W := by
  obtain ⟨x, y, z⟩ := p
  obtain ⟨x', y', z'⟩ := q
  rw [Pt.inB_iff] at hp hq
  unfold Pt.v Pt.dot
  dsimp only at *
  have h1 := prod_in hp.1 hq.1 (by decide)
  have h2 := prod_in hp.2.1 hq.2.1 (by decide)
  have h3 := prod_in hp.2.2 hq.2.2 (by decide)
  clear hp hq
  go_enter Try.func30, Try.ntmps30
  go_wp2
  go_ret
  exact ⟨rfl, ((Below.refl _ w).alloc (Nat.le_refl _) _).alloc (by simp) _⟩
end Go.Proofs.Ytccdgpijjgeedaa
