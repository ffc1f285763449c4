/- The reference's numbers by digits (tumblerref01): sums where the second is the greater. -/
import Derived.Test.YtfalniafkambmaaBNS7
namespace Go.Proofs.Ytfalniafkambmaa
open Go.RowKit Ref

theorem size_nine {W : World} {b : Nat} {s : Bool} {d : Nat → Int} : (((((((((W.setCell ⟨b, 0, none⟩ (.bool s)).setCell ⟨b, 1, none⟩ (.int .i64 (d 0))).setCell ⟨b, 2, none⟩ (.int .i64 (d 1))).setCell ⟨b, 3, none⟩ (.int .i64 (d 2))).setCell ⟨b, 4, none⟩ (.int .i64 (d 3))).setCell ⟨b, 5, none⟩ (.int .i64 (d 4))).setCell ⟨b, 6, none⟩ (.int .i64 (d 5))).setCell ⟨b, 7, none⟩ (.int .i64 (d 6))).setCell ⟨b, 8, none⟩ (.int .i64 (d 7))).heap.size = W.heap.size := by simp [World.setCell]

/-- The two boxes, one taken for the other. -/
theorem swapped {w w1 : World} {s t : Bool} {a b : Nat → Int} (LA : RLies w1 w.heap.size s a) (LB : RLies w1 (w.heap.size + 1) t b) (LZ : RLies w1 (w.heap.size + 1 + 1) false (fun _ => 0)) (HB : Below w.heap.size w w1) :
    RLies ((((((((((((((((((((w1.setCell ⟨w.heap.size, 0, none⟩ (.bool t)).setCell ⟨w.heap.size, 1, none⟩ (.int .i64 (b 0))).setCell ⟨w.heap.size, 2, none⟩ (.int .i64 (b 1))).setCell ⟨w.heap.size, 3, none⟩ (.int .i64 (b 2))).setCell ⟨w.heap.size, 4, none⟩ (.int .i64 (b 3))).setCell ⟨w.heap.size, 5, none⟩ (.int .i64 (b 4))).setCell ⟨w.heap.size, 6, none⟩ (.int .i64 (b 5))).setCell ⟨w.heap.size, 7, none⟩ (.int .i64 (b 6))).setCell ⟨w.heap.size, 8, none⟩ (.int .i64 (b 7))).setCell ⟨(w.heap.size + 1), 0, none⟩ (.bool s)).setCell ⟨(w.heap.size + 1), 1, none⟩ (.int .i64 (a 0))).setCell ⟨(w.heap.size + 1), 2, none⟩ (.int .i64 (a 1))).setCell ⟨(w.heap.size + 1), 3, none⟩ (.int .i64 (a 2))).setCell ⟨(w.heap.size + 1), 4, none⟩ (.int .i64 (a 3))).setCell ⟨(w.heap.size + 1), 5, none⟩ (.int .i64 (a 4))).setCell ⟨(w.heap.size + 1), 6, none⟩ (.int .i64 (a 5))).setCell ⟨(w.heap.size + 1), 7, none⟩ (.int .i64 (a 6))).setCell ⟨(w.heap.size + 1), 8, none⟩ (.int .i64 (a 7))).alloc (.cells #[.bool s, .int .i64 (a 0), .int .i64 (a 1), .int .i64 (a 2), .int .i64 (a 3), .int .i64 (a 4), .int .i64 (a 5), .int .i64 (a 6), .int .i64 (a 7)] 113)).alloc (.cells #[.bool t, .int .i64 (b 0), .int .i64 (b 1), .int .i64 (b 2), .int .i64 (b 3), .int .i64 (b 4), .int .i64 (b 5), .int .i64 (b 6), .int .i64 (b 7)] 113)) w.heap.size t b ∧ RLies ((((((((((((((((((((w1.setCell ⟨w.heap.size, 0, none⟩ (.bool t)).setCell ⟨w.heap.size, 1, none⟩ (.int .i64 (b 0))).setCell ⟨w.heap.size, 2, none⟩ (.int .i64 (b 1))).setCell ⟨w.heap.size, 3, none⟩ (.int .i64 (b 2))).setCell ⟨w.heap.size, 4, none⟩ (.int .i64 (b 3))).setCell ⟨w.heap.size, 5, none⟩ (.int .i64 (b 4))).setCell ⟨w.heap.size, 6, none⟩ (.int .i64 (b 5))).setCell ⟨w.heap.size, 7, none⟩ (.int .i64 (b 6))).setCell ⟨w.heap.size, 8, none⟩ (.int .i64 (b 7))).setCell ⟨(w.heap.size + 1), 0, none⟩ (.bool s)).setCell ⟨(w.heap.size + 1), 1, none⟩ (.int .i64 (a 0))).setCell ⟨(w.heap.size + 1), 2, none⟩ (.int .i64 (a 1))).setCell ⟨(w.heap.size + 1), 3, none⟩ (.int .i64 (a 2))).setCell ⟨(w.heap.size + 1), 4, none⟩ (.int .i64 (a 3))).setCell ⟨(w.heap.size + 1), 5, none⟩ (.int .i64 (a 4))).setCell ⟨(w.heap.size + 1), 6, none⟩ (.int .i64 (a 5))).setCell ⟨(w.heap.size + 1), 7, none⟩ (.int .i64 (a 6))).setCell ⟨(w.heap.size + 1), 8, none⟩ (.int .i64 (a 7))).alloc (.cells #[.bool s, .int .i64 (a 0), .int .i64 (a 1), .int .i64 (a 2), .int .i64 (a 3), .int .i64 (a 4), .int .i64 (a 5), .int .i64 (a 6), .int .i64 (a 7)] 113)).alloc (.cells #[.bool t, .int .i64 (b 0), .int .i64 (b 1), .int .i64 (b 2), .int .i64 (b 3), .int .i64 (b 4), .int .i64 (b 5), .int .i64 (b 6), .int .i64 (b 7)] 113)) (w.heap.size + 1) s a ∧ RLies ((((((((((((((((((((w1.setCell ⟨w.heap.size, 0, none⟩ (.bool t)).setCell ⟨w.heap.size, 1, none⟩ (.int .i64 (b 0))).setCell ⟨w.heap.size, 2, none⟩ (.int .i64 (b 1))).setCell ⟨w.heap.size, 3, none⟩ (.int .i64 (b 2))).setCell ⟨w.heap.size, 4, none⟩ (.int .i64 (b 3))).setCell ⟨w.heap.size, 5, none⟩ (.int .i64 (b 4))).setCell ⟨w.heap.size, 6, none⟩ (.int .i64 (b 5))).setCell ⟨w.heap.size, 7, none⟩ (.int .i64 (b 6))).setCell ⟨w.heap.size, 8, none⟩ (.int .i64 (b 7))).setCell ⟨(w.heap.size + 1), 0, none⟩ (.bool s)).setCell ⟨(w.heap.size + 1), 1, none⟩ (.int .i64 (a 0))).setCell ⟨(w.heap.size + 1), 2, none⟩ (.int .i64 (a 1))).setCell ⟨(w.heap.size + 1), 3, none⟩ (.int .i64 (a 2))).setCell ⟨(w.heap.size + 1), 4, none⟩ (.int .i64 (a 3))).setCell ⟨(w.heap.size + 1), 5, none⟩ (.int .i64 (a 4))).setCell ⟨(w.heap.size + 1), 6, none⟩ (.int .i64 (a 5))).setCell ⟨(w.heap.size + 1), 7, none⟩ (.int .i64 (a 6))).setCell ⟨(w.heap.size + 1), 8, none⟩ (.int .i64 (a 7))).alloc (.cells #[.bool s, .int .i64 (a 0), .int .i64 (a 1), .int .i64 (a 2), .int .i64 (a 3), .int .i64 (a 4), .int .i64 (a 5), .int .i64 (a 6), .int .i64 (a 7)] 113)).alloc (.cells #[.bool t, .int .i64 (b 0), .int .i64 (b 1), .int .i64 (b 2), .int .i64 (b 3), .int .i64 (b 4), .int .i64 (b 5), .int .i64 (b 6), .int .i64 (b 7)] 113)) (w.heap.size + 1 + 1) false (fun _ => 0) ∧
    RLies ((((((((((((((((((((w1.setCell ⟨w.heap.size, 0, none⟩ (.bool t)).setCell ⟨w.heap.size, 1, none⟩ (.int .i64 (b 0))).setCell ⟨w.heap.size, 2, none⟩ (.int .i64 (b 1))).setCell ⟨w.heap.size, 3, none⟩ (.int .i64 (b 2))).setCell ⟨w.heap.size, 4, none⟩ (.int .i64 (b 3))).setCell ⟨w.heap.size, 5, none⟩ (.int .i64 (b 4))).setCell ⟨w.heap.size, 6, none⟩ (.int .i64 (b 5))).setCell ⟨w.heap.size, 7, none⟩ (.int .i64 (b 6))).setCell ⟨w.heap.size, 8, none⟩ (.int .i64 (b 7))).setCell ⟨(w.heap.size + 1), 0, none⟩ (.bool s)).setCell ⟨(w.heap.size + 1), 1, none⟩ (.int .i64 (a 0))).setCell ⟨(w.heap.size + 1), 2, none⟩ (.int .i64 (a 1))).setCell ⟨(w.heap.size + 1), 3, none⟩ (.int .i64 (a 2))).setCell ⟨(w.heap.size + 1), 4, none⟩ (.int .i64 (a 3))).setCell ⟨(w.heap.size + 1), 5, none⟩ (.int .i64 (a 4))).setCell ⟨(w.heap.size + 1), 6, none⟩ (.int .i64 (a 5))).setCell ⟨(w.heap.size + 1), 7, none⟩ (.int .i64 (a 6))).setCell ⟨(w.heap.size + 1), 8, none⟩ (.int .i64 (a 7))).alloc (.cells #[.bool s, .int .i64 (a 0), .int .i64 (a 1), .int .i64 (a 2), .int .i64 (a 3), .int .i64 (a 4), .int .i64 (a 5), .int .i64 (a 6), .int .i64 (a 7)] 113)).alloc (.cells #[.bool t, .int .i64 (b 0), .int .i64 (b 1), .int .i64 (b 2), .int .i64 (b 3), .int .i64 (b 4), .int .i64 (b 5), .int .i64 (b 6), .int .i64 (b 7)] 113)) (w1.heap.size + 1) t b ∧ Below w.heap.size w ((((((((((((((((((((w1.setCell ⟨w.heap.size, 0, none⟩ (.bool t)).setCell ⟨w.heap.size, 1, none⟩ (.int .i64 (b 0))).setCell ⟨w.heap.size, 2, none⟩ (.int .i64 (b 1))).setCell ⟨w.heap.size, 3, none⟩ (.int .i64 (b 2))).setCell ⟨w.heap.size, 4, none⟩ (.int .i64 (b 3))).setCell ⟨w.heap.size, 5, none⟩ (.int .i64 (b 4))).setCell ⟨w.heap.size, 6, none⟩ (.int .i64 (b 5))).setCell ⟨w.heap.size, 7, none⟩ (.int .i64 (b 6))).setCell ⟨w.heap.size, 8, none⟩ (.int .i64 (b 7))).setCell ⟨(w.heap.size + 1), 0, none⟩ (.bool s)).setCell ⟨(w.heap.size + 1), 1, none⟩ (.int .i64 (a 0))).setCell ⟨(w.heap.size + 1), 2, none⟩ (.int .i64 (a 1))).setCell ⟨(w.heap.size + 1), 3, none⟩ (.int .i64 (a 2))).setCell ⟨(w.heap.size + 1), 4, none⟩ (.int .i64 (a 3))).setCell ⟨(w.heap.size + 1), 5, none⟩ (.int .i64 (a 4))).setCell ⟨(w.heap.size + 1), 6, none⟩ (.int .i64 (a 5))).setCell ⟨(w.heap.size + 1), 7, none⟩ (.int .i64 (a 6))).setCell ⟨(w.heap.size + 1), 8, none⟩ (.int .i64 (a 7))).alloc (.cells #[.bool s, .int .i64 (a 0), .int .i64 (a 1), .int .i64 (a 2), .int .i64 (a 3), .int .i64 (a 4), .int .i64 (a 5), .int .i64 (a 6), .int .i64 (a 7)] 113)).alloc (.cells #[.bool t, .int .i64 (b 0), .int .i64 (b 1), .int .i64 (b 2), .int .i64 (b 3), .int .i64 (b 4), .int .i64 (b 5), .int .i64 (b 6), .int .i64 (b 7)] 113)) := by
  have hs : ((((((((((((((((((w1.setCell ⟨w.heap.size, 0, none⟩ (.bool t)).setCell ⟨w.heap.size, 1, none⟩ (.int .i64 (b 0))).setCell ⟨w.heap.size, 2, none⟩ (.int .i64 (b 1))).setCell ⟨w.heap.size, 3, none⟩ (.int .i64 (b 2))).setCell ⟨w.heap.size, 4, none⟩ (.int .i64 (b 3))).setCell ⟨w.heap.size, 5, none⟩ (.int .i64 (b 4))).setCell ⟨w.heap.size, 6, none⟩ (.int .i64 (b 5))).setCell ⟨w.heap.size, 7, none⟩ (.int .i64 (b 6))).setCell ⟨w.heap.size, 8, none⟩ (.int .i64 (b 7))).setCell ⟨(w.heap.size + 1), 0, none⟩ (.bool s)).setCell ⟨(w.heap.size + 1), 1, none⟩ (.int .i64 (a 0))).setCell ⟨(w.heap.size + 1), 2, none⟩ (.int .i64 (a 1))).setCell ⟨(w.heap.size + 1), 3, none⟩ (.int .i64 (a 2))).setCell ⟨(w.heap.size + 1), 4, none⟩ (.int .i64 (a 3))).setCell ⟨(w.heap.size + 1), 5, none⟩ (.int .i64 (a 4))).setCell ⟨(w.heap.size + 1), 6, none⟩ (.int .i64 (a 5))).setCell ⟨(w.heap.size + 1), 7, none⟩ (.int .i64 (a 6))).setCell ⟨(w.heap.size + 1), 8, none⟩ (.int .i64 (a 7))).heap.size = w1.heap.size := by rw [size_nine, size_nine]
  refine ⟨(((lies_nine LA).nine (by omega)).alloc _).alloc _, ((lies_nine (LB.nine (by omega))).alloc _).alloc _, (((LZ.nine (by omega)).nine (by omega)).alloc _).alloc _, ?_, ?_⟩
  · have := lies_new (((((((((((((((((((w1.setCell ⟨w.heap.size, 0, none⟩ (.bool t)).setCell ⟨w.heap.size, 1, none⟩ (.int .i64 (b 0))).setCell ⟨w.heap.size, 2, none⟩ (.int .i64 (b 1))).setCell ⟨w.heap.size, 3, none⟩ (.int .i64 (b 2))).setCell ⟨w.heap.size, 4, none⟩ (.int .i64 (b 3))).setCell ⟨w.heap.size, 5, none⟩ (.int .i64 (b 4))).setCell ⟨w.heap.size, 6, none⟩ (.int .i64 (b 5))).setCell ⟨w.heap.size, 7, none⟩ (.int .i64 (b 6))).setCell ⟨w.heap.size, 8, none⟩ (.int .i64 (b 7))).setCell ⟨(w.heap.size + 1), 0, none⟩ (.bool s)).setCell ⟨(w.heap.size + 1), 1, none⟩ (.int .i64 (a 0))).setCell ⟨(w.heap.size + 1), 2, none⟩ (.int .i64 (a 1))).setCell ⟨(w.heap.size + 1), 3, none⟩ (.int .i64 (a 2))).setCell ⟨(w.heap.size + 1), 4, none⟩ (.int .i64 (a 3))).setCell ⟨(w.heap.size + 1), 5, none⟩ (.int .i64 (a 4))).setCell ⟨(w.heap.size + 1), 6, none⟩ (.int .i64 (a 5))).setCell ⟨(w.heap.size + 1), 7, none⟩ (.int .i64 (a 6))).setCell ⟨(w.heap.size + 1), 8, none⟩ (.int .i64 (a 7))).alloc (.cells #[.bool s, .int .i64 (a 0), .int .i64 (a 1), .int .i64 (a 2), .int .i64 (a 3), .int .i64 (a 4), .int .i64 (a 5), .int .i64 (a 6), .int .i64 (a 7)] 113)) t b 113
    rwa [World.size_alloc, hs] at this
  · have h1 : Below w.heap.size w ((((((((((((((((((w1.setCell ⟨w.heap.size, 0, none⟩ (.bool t)).setCell ⟨w.heap.size, 1, none⟩ (.int .i64 (b 0))).setCell ⟨w.heap.size, 2, none⟩ (.int .i64 (b 1))).setCell ⟨w.heap.size, 3, none⟩ (.int .i64 (b 2))).setCell ⟨w.heap.size, 4, none⟩ (.int .i64 (b 3))).setCell ⟨w.heap.size, 5, none⟩ (.int .i64 (b 4))).setCell ⟨w.heap.size, 6, none⟩ (.int .i64 (b 5))).setCell ⟨w.heap.size, 7, none⟩ (.int .i64 (b 6))).setCell ⟨w.heap.size, 8, none⟩ (.int .i64 (b 7))).setCell ⟨(w.heap.size + 1), 0, none⟩ (.bool s)).setCell ⟨(w.heap.size + 1), 1, none⟩ (.int .i64 (a 0))).setCell ⟨(w.heap.size + 1), 2, none⟩ (.int .i64 (a 1))).setCell ⟨(w.heap.size + 1), 3, none⟩ (.int .i64 (a 2))).setCell ⟨(w.heap.size + 1), 4, none⟩ (.int .i64 (a 3))).setCell ⟨(w.heap.size + 1), 5, none⟩ (.int .i64 (a 4))).setCell ⟨(w.heap.size + 1), 6, none⟩ (.int .i64 (a 5))).setCell ⟨(w.heap.size + 1), 7, none⟩ (.int .i64 (a 6))).setCell ⟨(w.heap.size + 1), 8, none⟩ (.int .i64 (a 7))) := below_nine (below_nine HB (Nat.le_refl _)) (by omega)
    have h2 := h1.size
    exact (h1.alloc h2 _).alloc (by rw [World.size_alloc]; omega) _

set_option maxHeartbeats 1000000 in
theorem plus_swap (s t : Bool) (a b : Nat → Int) (w : World) (ha : Digs a) (hb : Digs b) (hst : s ≠ t) (hle : val a 8 < val b 8) :
    Calls Try.prog 95 #[wv s a, wv t b] w fun e w' => ∃ u d, e = .returned (wv u d) ∧ Hid (Digs d ∧ sv u d = sv s a + sv t b) ∧ Hid (Below w.heap.size w w') := by
  have HS : Hid _ := fun w => sizes_any s t a b w ha hb
  have HC : Hid _ := ha
  have HA : Hid _ := hb
  have HF : Hid (s ≠ t ∧ val a 8 < val b 8) := ⟨hst, hle⟩
  have hb1 : (s == t) = false := by simp [hst]
  clear ha hb hst hle
  go_enter Try.func95, Try.ntmps95
  go_wp2_with (fail)
  refine (HS.out _).mono ?_
  rintro e w1 ⟨c, rfl, SC, B⟩
  have hc0 : c < 0 := by have := HF.out.2; rcases SC.out with h | h | h <;> omega
  have LA : Hid _ := RLies.below (RLies.alloc (RLies.alloc (by show RLies _ _ _ _; have := lies_new w s a 113; simpa only [World.size_alloc] using this) _) _) B.out (by first | (simp; done) | (simp; omega))
  have LB : Hid _ := RLies.below (RLies.alloc (by show RLies _ _ _ _; have := lies_new (w.alloc (.cells #[.bool s, .int .i64 (a 0), .int .i64 (a 1), .int .i64 (a 2), .int .i64 (a 3), .int .i64 (a 4), .int .i64 (a 5), .int .i64 (a 6), .int .i64 (a 7)] 113)) t b 113; simpa only [World.size_alloc] using this) _) B.out (by first | (simp; done) | (simp; omega))
  have LZ : Hid _ := RLies.below (by show RLies _ _ _ _; have := lies_new ((w.alloc (.cells #[.bool s, .int .i64 (a 0), .int .i64 (a 1), .int .i64 (a 2), .int .i64 (a 3), .int .i64 (a 4), .int .i64 (a 5), .int .i64 (a 6), .int .i64 (a 7)] 113)).alloc (.cells #[.bool t, .int .i64 (b 0), .int .i64 (b 1), .int .i64 (b 2), .int .i64 (b 3), .int .i64 (b 4), .int .i64 (b 5), .int .i64 (b 6), .int .i64 (b 7)] 113)) false (fun _ => 0) 113; simpa only [World.size_alloc] using this) B.out (by first | (simp; done) | (simp; omega))
  have hs1 := B.out.size
  simp only [World.size_alloc] at hs1
  have HB : Hid _ := below_step (w := w) (((new_after w _).alloc (by simp) _).alloc (by simp; omega) _) B.out
  obtain ⟨a0, a1, a2, a3, a4, a5, a6, a7, a8⟩ := LA.out.cells
  obtain ⟨g0, g1, g2, g3, g4, g5, g6, g7, g8⟩ := LA.out.frees
  obtain ⟨b0, b1, b2, b3, b4, b5, b6, b7, b8⟩ := LB.out.cells
  obtain ⟨h0, h1, h2, h3, h4, h5, h6, h7, h8⟩ := LB.out.frees
  have m0 : w.heap.size < w1.heap.size := by omega
  have m1 : w.heap.size + 1 < w1.heap.size := by omega
  have n0 : w.heap.size ≠ w1.heap.size := by omega
  have n1 : w.heap.size + 1 ≠ w1.heap.size := by omega
  have n2 : w1.heap.size ≠ w.heap.size := by omega
  have n3 : w1.heap.size ≠ w.heap.size + 1 := by omega
  clear HS SC B
  go_wp2
  obtain ⟨x1, x2, x3, x4, x5⟩ := swapped LA.out LB.out LZ.out HB.out
  have X1 : Hid _ := x1
  have X2 : Hid _ := x2
  have X3 : Hid _ := x3
  have X4 : Hid _ := x4
  have X5 : Hid _ := x5
  clear x1 x2 x3 x4 x5 LA LB LZ HB a0 a1 a2 a3 a4 a5 a6 a7 a8 g0 g1 g2 g3 g4 g5 g6 g7 g8 b0 b1 b2 b3 b4 b5 b6 b7 b8 h0 h1 h2 h3 h4 h5 h6 h7 h8
  obtain ⟨OUT, hOUT⟩ : ∃ o, o = w1.heap.size + 1 := ⟨_, rfl⟩
  rw [← hOUT]
  rw [← hOUT] at X4
  have hs2 : w.heap.size + 3 < OUT := by omega
  clear hOUT
  go_loopw [11, 12] (fun cc i wr => ∃ (k : Nat) (d : Nat → Int) (c : Int), k ≤ 8 ∧ i = .int .i64 k ∧ cc = .int .i64 c ∧ 0 ≤ c ∧ c ≤ 1 ∧ Hid (Digs d ∧ val d k - c * 16777216 ^ k = val b k - val a k) ∧ Hid (RLies wr w.heap.size t b) ∧ Hid (RLies wr (w.heap.size + 1) s a) ∧ Hid (RLies wr (w.heap.size + 1 + 1) false (fun _ => 0)) ∧ Hid (RLies wr OUT t d) ∧ Hid (Below w.heap.size w wr)) (fun _ i _ => 8 - (intOf i).toNat)
  case atStart =>
    exact ⟨0, b, 0, Nat.zero_le _, rfl, rfl, by omega, by omega, ⟨HA.out, by simp [val]⟩, X1, X2, X3, X4, X5⟩
  case round =>
    obtain ⟨k, d, c, hk, rfl, rfl, hc0, hc1, HD, HL, HR, HZ, HO, HB⟩ := hrel
    by_cases hlt : k < 8
    · have e1 := HL.out.dig k hlt
      have e2 := HR.out.dig k hlt
      have e3 := HO.out.dig k hlt
      have e4 := HO.out.free (1 + k) (by omega)
      have i0 : (0 : Int) ≤ (k : Int) := by omega
      have i1 : (k : Int) < 8 := by omega
      have b1 := HA.out k hlt
      have b2 := HC.out k hlt
      have HN : Hid _ := fun n c' hn => dif_next (n := n) (c' := c') HA.out HC.out HD.out.1 hlt ⟨hc0, hc1⟩ HD.out.2 hn
      obtain ⟨p, hp⟩ : ∃ p, p = b k := ⟨_, rfl⟩
      obtain ⟨q, hq⟩ : ∃ q, q = a k := ⟨_, rfl⟩
      rw [← hp] at e1 b1 HN
      rw [← hq] at e2 b2 HN
      clear hp hq
      by_cases hneg : p - q - c < 0
      · have HM : Hid _ := HN.out _ _ (Or.inl ⟨hneg, rfl, rfl⟩)
        clear HN
        go_wp2
        go_region
        all_goals go_wp2
        all_goals go_roundw
        all_goals try (case rel => obtain ⟨n1, n2, n3, n4⟩ := HM.out; exact ⟨k + 1, put d k (p - q - c + 16777216), 1, by omega, by go_num, rfl, n2, n3, ⟨n1, n4⟩, (HL.out.otherAt (by omega) _).drew, (HR.out.otherAt (by omega) _).drew, (HZ.out.otherAt (by omega) _).drew, (HO.out.put hlt _).drew, (setAt HB.out (by omega) _).drew⟩)
        all_goals try (case measure => simp [intOf]; omega)
      · have HM : Hid _ := HN.out _ _ (Or.inr ⟨by omega, rfl, rfl⟩)
        clear HN
        go_wp2
        go_region
        all_goals go_wp2
        all_goals go_roundw
        all_goals try (case rel => obtain ⟨n1, n2, n3, n4⟩ := HM.out; exact ⟨k + 1, put d k (p - q - c), 0, by omega, by go_num, rfl, n2, n3, ⟨n1, n4⟩, (HL.out.otherAt (by omega) _).drew, (HR.out.otherAt (by omega) _).drew, (HZ.out.otherAt (by omega) _).drew, (HO.out.put hlt _).drew, (setAt HB.out (by omega) _).drew⟩)
        all_goals try (case measure => simp [intOf]; omega)
    · have hk8 : 8 ≤ (k : Int) := by omega
      have e8 : k = 8 := by omega
      have HE : Hid (Digs d ∧ sv t d = sv s a + sv t b) := by
        obtain ⟨d1, d2⟩ := HD.out
        rw [e8] at d2
        exact ⟨d1, dif_sv' HF.out.1 (dif_done d1 hc0 d2 (Int.le_of_lt HF.out.2))⟩
      obtain ⟨c0, c1, c2, c3, c4, c5, c6, c7, c8⟩ := HO.out.cells
      obtain ⟨r0, r1, r2, r3, r4, r5, r6, r7, r8⟩ := HZ.out.cells
      obtain ⟨f0, f1, f2, f3, f4, f5, f6, f7, f8⟩ := HZ.out.frees
      clear e8 HD HF HA HC
      go_wp2
      try simp only [Exit.inBlock, Exit.then]
      refine bodyPost_ret (by simp [results, Try.results95, go_sem, r0, r1, r2, r3, r4, r5, r6, r7, r8]; try rfl) rfl ?_
      exact ⟨_, d, rfl, HE.out, below_nine HB.out (by omega)⟩

/-- A sum. -/
theorem plusw_any (s t : Bool) (a b : Nat → Int) (w : World) (ha : Digs a) (hb : Digs b) (hfit : (sv s a + sv t b).natAbs < 6277101735386680763835789423207666416102355444464034512896) :
    Calls Try.prog 95 #[wv s a, wv t b] w fun e w' => ∃ u d, e = .returned (wv u d) ∧ Hid (Digs d ∧ sv u d = sv s a + sv t b) ∧ Hid (Below w.heap.size w w') := by
  by_cases hst : s = t
  · subst hst; exact plus_same s a b w ha hb hfit
  · by_cases hle : val b 8 ≤ val a 8
    · exact plus_other s t a b w ha hb hst hle
    · exact plus_swap s t a b w ha hb hst (by omega)

theorem sv_not (t : Bool) (b : Nat → Int) : sv (!t) b = -sv t b := by unfold sv; cases t <;> simp

set_option maxHeartbeats 1000000 in
theorem rless_any (s t : Bool) (a b : Nat → Int) (w : World) (ha : Digs a) (hb : Digs b) (hfit : (sv s a - sv t b).natAbs < 6277101735386680763835789423207666416102355444464034512896) :
    Calls Try.prog 94 #[wv s a, wv t b] w fun e w' => ∃ c, e = .returned (.bool c) ∧ Hid (c = true ↔ sv s a < sv t b) ∧ Hid (Below w.heap.size w w') := by
  have HP : Hid _ := fun w => plusw_any s (!t) a b w ha hb (by rw [sv_not]; exact hfit)
  clear ha hb hfit
  go_enter Try.func94, Try.ntmps94
  go_wp2_with (fail)
  refine (HP.out _).mono ?_
  rintro e w1 ⟨u, d, rfl, SC, B⟩
  have HS : Hid _ := fun w => sign_any u d w SC.out.1
  have HB : Hid _ := below_step (w := w) ((new_after w _).alloc (by simp) _) B.out
  clear B HP
  go_wp2_with (fail)
  refine (HS.out _).mono ?_
  rintro e w2 ⟨c, rfl, SD, B⟩
  have HB2 : Hid _ := below_step HB.out B.out
  clear B HS HB
  go_wp2_with (fail)
  go_ret
  refine ⟨_, rfl, ?_, HB2.out⟩
  have h1 := SD.out.2.2
  have h2 := SC.out.2
  rw [sv_not] at h2
  show _ ↔ _
  simp only [decide_eq_true_eq]
  omega

end Go.Proofs.Ytfalniafkambmaa
namespace Go.Proofs.Ytfalniafkambmaa
open Go.RowKit Ref

theorem val_succ (d : Nat → Int) (n : Nat) : val d (n + 1) = val d n + d n * 16777216 ^ n := rfl

theorem val_split (b : Nat → Int) (n : Nat) : ∀ m, val b (n + m) = val b n + 16777216 ^ n * val (fun j => b (n + j)) m
  | 0 => by simp [val]
  | m + 1 => by
    rw [← Nat.add_assoc]
    simp only [val]
    rw [val_split b n m, Int.pow_add]
    grind

theorem times_zero {a b d : Nat → Int} {k : Nat} (h : ∃ m : Int, val d 8 + m * 16777216 ^ 8 = val a k * val b 8) (hz : a k = 0) : ∃ m : Int, val d 8 + m * 16777216 ^ 8 = val a (k + 1) * val b 8 := by
  obtain ⟨m, h⟩ := h
  exact ⟨m, by rw [val_succ a k, hz, Int.zero_mul, Int.add_zero]; exact h⟩

theorem times_next {b d e : Nat → Int} {k j : Nat} {x c y o : Int} (hb : 0 ≤ y ∧ y < 16777216) (hx : 0 ≤ x ∧ x < 16777216) (ho : 0 ≤ o ∧ o < 16777216) (he : Digs e) (hkj : k + j < 8) (hc : 0 ≤ c ∧ c < 16777216) (ey : y = b j) (eo : o = e (k + j))
    (h : val e 8 + c * 16777216 ^ (k + j) = val d 8 + x * val b j * 16777216 ^ k) :
    Digs (put e (k + j) ((o + x * y + c) % 16777216)) ∧ 0 ≤ (o + x * y + c) / 16777216 ∧ (o + x * y + c) / 16777216 < 16777216 ∧
    val (put e (k + j) ((o + x * y + c) % 16777216)) 8 + (o + x * y + c) / 16777216 * 16777216 ^ (k + (j + 1)) = val d 8 + x * val b (j + 1) * 16777216 ^ k := by
  have hp0 : 0 ≤ x * y := Int.mul_nonneg hx.1 hb.1
  have hp1 : x * y ≤ 16777215 * 16777215 := Int.mul_le_mul (by omega) (by omega) hb.1 (by omega)
  refine ⟨he.put _ ⟨Int.emod_nonneg _ (by omega), Int.emod_lt_of_pos _ (by omega)⟩, by omega, by omega, ?_⟩
  rw [val_put _ _ _ 8 hkj, ← eo, ← Nat.add_assoc, Int.pow_succ]
  have := mul_step (o := o) (x := x) (y := y) h
  rw [this, val_succ b j, ← ey, Int.pow_add]
  generalize val d 8 = D8 at *
  grind

theorem times_round {a b d e : Nat → Int} {k j : Nat} {c : Int} (h : ∃ m : Int, val d 8 + m * 16777216 ^ 8 = val a k * val b 8) (hj : k + j = 8)
    (hi : val e 8 + c * 16777216 ^ (k + j) = val d 8 + a k * val b j * 16777216 ^ k) : ∃ m : Int, val e 8 + m * 16777216 ^ 8 = val a (k + 1) * val b 8 := by
  obtain ⟨m, h⟩ := h
  have hs := val_split b j k
  rw [Nat.add_comm j k, hj] at hs
  have hp : (16777216 : Int) ^ 8 = 16777216 ^ j * 16777216 ^ k := by rw [← Int.pow_add, Nat.add_comm j k, hj]
  rw [hj] at hi
  refine ⟨c + m + a k * val (fun i => b (j + i)) k, ?_⟩
  rw [val_succ a k]
  rw [hp] at h hi ⊢
  clear hp
  generalize val (fun i => b (j + i)) k = R at *
  generalize val b 8 = B8 at *
  generalize val d 8 = D8 at *
  generalize val e 8 = E8 at *
  generalize (16777216 : Int) ^ j = X at *
  generalize (16777216 : Int) ^ k = Y at *
  grind

theorem times_done {a b d : Nat → Int} {s t : Bool} (ha : Digs a) (hb : Digs b) (hd : Digs d) (h : ∃ m : Int, val d 8 + m * 16777216 ^ 8 = val a 8 * val b 8) (hfit : (sv s a * sv t b).natAbs < 6277101735386680763835789423207666416102355444464034512896) :
    sv (s != t) d = sv s a * sv t b := by
  obtain ⟨m, h⟩ := h
  have h1 : (16777216 : Int) ^ 8 = 6277101735386680763835789423207666416102355444464034512896 := by decide
  rw [h1] at h
  have d0 := hd.nonneg
  have d1 := hd.lt
  have hp : 0 ≤ val a 8 * val b 8 := Int.mul_nonneg ha.nonneg hb.nonneg
  have e : (sv s a * sv t b).natAbs = (val a 8 * val b 8).natAbs := by unfold sv; cases s <;> cases t <;> simp [Int.natAbs_mul]
  rw [e] at hfit
  have hv : val d 8 = val a 8 * val b 8 := by omega
  unfold sv
  rw [hv]
  cases s <;> cases t <;> simp [Int.neg_mul, Int.mul_neg]

theorem RLies.sign {W : World} {b : Nat} {s : Bool} {d : Nat → Int} (h : RLies W b s d) (t : Bool) : RLies (W.setCell ⟨b, 0, none⟩ (.bool t)) b t d := by
  have hn := h.neg
  refine ⟨by simp [go_sem, hn], fun k hk => ?_, fun k hk => ?_⟩
  · rw [← h.dig k hk]; simp [go_sem]
  · rw [← h.free k hk]; simp [go_sem]

set_option maxHeartbeats 1000000 in
theorem times_any (s t : Bool) (a b : Nat → Int) (w : World) (ha : Digs a) (hb : Digs b) (hfit : (sv s a * sv t b).natAbs < 6277101735386680763835789423207666416102355444464034512896) :
    Calls Try.prog 92 #[wv s a, wv t b] w fun e w' => ∃ u d, e = .returned (wv u d) ∧ Hid (Digs d ∧ sv u d = sv s a * sv t b) ∧ Hid (Below w.heap.size w w') := by
  have HE : Hid _ := fun d (hd : Digs d) h => times_done (s := s) (t := t) ha hb hd h hfit
  have HA : Hid _ := ha
  have HC : Hid _ := hb
  clear ha hb hfit
  go_enter Try.func92, Try.ntmps92
  go_wp2
  go_loopw [6] (fun i wr => ∃ (k : Nat) (d : Nat → Int), k ≤ 8 ∧ i = .int .i64 k ∧ Hid (Digs d ∧ ∃ m : Int, val d 8 + m * 16777216 ^ 8 = val a k * val b 8) ∧ Hid (RLies wr w.heap.size s a) ∧ Hid (RLies wr (w.heap.size + 1) t b) ∧ Hid (RLies wr (w.heap.size + 1 + 1) false (fun _ => 0)) ∧ Hid (RLies wr (w.heap.size + 1 + 1 + 1) false d) ∧ Hid (Below w.heap.size w wr)) (fun i _ => 8 - (intOf i).toNat)
  case atStart =>
    exact ⟨0, fun _ => 0, Nat.zero_le _, rfl, ⟨fun j _ => by simp, 0, by simp [val]⟩, (RLies.alloc (RLies.alloc (RLies.alloc (by show RLies _ _ _ _; have := lies_new w s a 113; simpa only [World.size_alloc] using this) _) _) _), (RLies.alloc (RLies.alloc (by show RLies _ _ _ _; have := lies_new (w.alloc (.cells #[.bool s, .int .i64 (a 0), .int .i64 (a 1), .int .i64 (a 2), .int .i64 (a 3), .int .i64 (a 4), .int .i64 (a 5), .int .i64 (a 6), .int .i64 (a 7)] 113)) t b 113; simpa only [World.size_alloc] using this) _) _), (RLies.alloc (by show RLies _ _ _ _; have := lies_new ((w.alloc (.cells #[.bool s, .int .i64 (a 0), .int .i64 (a 1), .int .i64 (a 2), .int .i64 (a 3), .int .i64 (a 4), .int .i64 (a 5), .int .i64 (a 6), .int .i64 (a 7)] 113)).alloc (.cells #[.bool t, .int .i64 (b 0), .int .i64 (b 1), .int .i64 (b 2), .int .i64 (b 3), .int .i64 (b 4), .int .i64 (b 5), .int .i64 (b 6), .int .i64 (b 7)] 113)) false (fun _ => 0) 113; simpa only [World.size_alloc] using this) _), (by show RLies _ _ _ _; have := lies_new (((w.alloc (.cells #[.bool s, .int .i64 (a 0), .int .i64 (a 1), .int .i64 (a 2), .int .i64 (a 3), .int .i64 (a 4), .int .i64 (a 5), .int .i64 (a 6), .int .i64 (a 7)] 113)).alloc (.cells #[.bool t, .int .i64 (b 0), .int .i64 (b 1), .int .i64 (b 2), .int .i64 (b 3), .int .i64 (b 4), .int .i64 (b 5), .int .i64 (b 6), .int .i64 (b 7)] 113)).alloc (.cells #[.bool false, .int .i64 0, .int .i64 0, .int .i64 0, .int .i64 0, .int .i64 0, .int .i64 0, .int .i64 0, .int .i64 0] 113)) false (fun _ => 0) 113; simpa only [World.size_alloc] using this), ((((new_after w _).alloc (by simp) _).alloc (by simp; omega) _).alloc (by simp; omega) _)⟩
  case round =>
    obtain ⟨k, d, hk, rfl, HD, HL, HR, HZ, HO, HB⟩ := hrel
    by_cases hlt : k < 8
    · have e1 := HL.out.dig k hlt
      have i0 : (0 : Int) ≤ (k : Int) := by omega
      have i1 : (k : Int) < 8 := by omega
      have b1 := HA.out k hlt
      obtain ⟨x, hx⟩ : ∃ x, x = a k := ⟨_, rfl⟩
      rw [← hx] at e1 b1
      by_cases hz : x = 0
      · have HM : Hid _ := times_zero HD.out.2 (by rw [← hx, hz])
        clear hx
        go_wp2
        go_roundw
        case rel => exact ⟨k + 1, d, by omega, by go_num, ⟨HD.out.1, HM.out⟩, HL.out, HR.out, HZ.out, HO.out, HB.out⟩
        case measure => simp [intOf]; omega
      · have HX : Hid _ := hx
        clear hx
        go_wp2
        go_loopw [7, 8] (fun cc i wr => ∃ (j : Nat) (e : Nat → Int) (c : Int), k + j ≤ 8 ∧ i = .int .i64 j ∧ cc = .int .i64 c ∧ 0 ≤ c ∧ c < 16777216 ∧ Hid (Digs e ∧ val e 8 + c * 16777216 ^ (k + j) = val d 8 + x * val b j * 16777216 ^ k) ∧ Hid (RLies wr w.heap.size s a) ∧ Hid (RLies wr (w.heap.size + 1) t b) ∧ Hid (RLies wr (w.heap.size + 1 + 1) false (fun _ => 0)) ∧ Hid (RLies wr (w.heap.size + 1 + 1 + 1) false e) ∧ Hid (Below w.heap.size w wr)) (fun _ i _ => 8 - (intOf i).toNat)
        case atStart => exact ⟨0, d, 0, by omega, rfl, rfl, by omega, by omega, ⟨HD.out.1, by simp [val]⟩, HL.out, HR.out, HZ.out, HO.out, HB.out⟩
        case round =>
          clear HL HR HZ HO HB e1
          obtain ⟨j, e, c, hj, rfl, rfl, hc0, hc1, HI, HL, HR, HZ, HO, HB⟩ := hrel
          by_cases hjl : k + j < 8
          · have e1 := HL.out.dig k hlt
            rw [← HX.out] at e1
            have e2 := HR.out.dig j (by omega)
            have e3 := HO.out.dig (k + j) hjl
            have e4 := HO.out.free (1 + (k + j)) (by omega)
            have j0 : (0 : Int) ≤ (j : Int) := by omega
            have j1 : (j : Int) < 8 := by omega
            have k0 : (0 : Int) ≤ (k : Int) + (j : Int) := by omega
            have k1 : (k : Int) + (j : Int) < 8 := by omega
            have b2 := HC.out j (by omega)
            have b3 := HI.out.1 (k + j) hjl
            obtain ⟨y, hy⟩ : ∃ y, y = b j := ⟨_, rfl⟩
            obtain ⟨o, ho⟩ : ∃ o, o = e (k + j) := ⟨_, rfl⟩
            rw [← hy] at e2 b2
            rw [← ho] at e3 b3
            have HN : Hid _ := times_next b2 b1 b3 HI.out.1 hjl ⟨hc0, hc1⟩ hy ho HI.out.2
            have hp0 : 0 ≤ x * y := Int.mul_nonneg b1.1 b2.1
            have hp1 : x * y ≤ 16777215 * 16777215 := Int.mul_le_mul (by omega) (by omega) b2.1 (by omega)
            clear hy ho
            go_wp2
            go_region
            all_goals go_wp2
            all_goals go_roundw
            all_goals try (case rel => obtain ⟨n1, n2, n3, n4⟩ := HN.out; exact ⟨j + 1, put e (k + j) ((o + x * y + c) % 16777216), (o + x * y + c) / 16777216, by omega, by go_num, rfl, n2, n3, ⟨n1, n4⟩, (HL.out.otherAt (by omega) _).drew, (HR.out.otherAt (by omega) _).drew, (HZ.out.otherAt (by omega) _).drew, (HO.out.put hjl _).drew, (setAt HB.out (by omega) _).drew⟩)
            all_goals try (case measure => simp [intOf]; omega)
          · have k8 : ¬ (k : Int) + (j : Int) < 8 := by omega
            have HM : Hid _ := times_round (e := e) (c := c) HD.out.2 (by omega : k + j = 8) (by rw [← HX.out]; exact HI.out.2)
            go_wp2
            go_roundw
            case rel => exact ⟨k + 1, e, by omega, by go_num, ⟨HI.out.1, HM.out⟩, HL.out, HR.out, HZ.out, HO.out, HB.out⟩
            case measure => simp [intOf]; omega
    · have k8 : 8 ≤ (k : Int) := by omega
      have HV : Hid (Digs d ∧ sv (s != t) d = sv s a * sv t b) := by
        obtain ⟨d1, d2⟩ := HD.out
        rw [(by omega : k = 8)] at d2
        exact ⟨d1, HE.out d d1 d2⟩
      have HO' : Hid _ := HO.out.sign (s != t)
      obtain ⟨q0, q1, q2, q3, q4, q5, q6, q7, q8⟩ := HO.out.cells
      have y0 := HO.out.free 0 (by omega)
      obtain ⟨r0, r1, r2, r3, r4, r5, r6, r7, r8⟩ := HZ.out.cells
      obtain ⟨f0, f1, f2, f3, f4, f5, f6, f7, f8⟩ := HZ.out.frees
      have z0 := HL.out.neg
      have z1 := HR.out.neg
      clear HD HA HC HE
      go_wp2
      try simp only [Exit.inBlock, Exit.then]
      refine bodyPost_ret (by simp [results, Try.results92, go_sem, r0, r1, r2, r3, r4, r5, r6, r7, r8]; try rfl) rfl ?_
      exact ⟨_, d, rfl, HV.out, below_nine (setAt HB.out (by omega) _) (by omega)⟩
end Go.Proofs.Ytfalniafkambmaa
namespace Go.Proofs.Ytfalniafkambmaa
open Go.RowKit Ref

/-- The digits from number k on, as a number. -/
def top (d : Nat → Int) (k : Nat) : Int := val (fun j => d (k + j)) (8 - k)
theorem top_all (d : Nat → Int) : top d 8 = 0 := rfl
theorem top_none (d : Nat → Int) : top d 0 = val d 8 := val_ext 8 fun j _ => by simp
theorem top_step (d : Nat → Int) (k : Nat) (hk : k < 8) : top d k = top d (k + 1) * 16777216 + d k := by
  unfold top
  have h := val_split (fun j => d (k + j)) 1 (8 - (k + 1))
  rw [show 1 + (8 - (k + 1)) = 8 - k by omega] at h
  rw [h]
  have e : val (fun j => d (k + (1 + j))) (8 - (k + 1)) = val (fun j => d (k + 1 + j)) (8 - (k + 1)) := val_ext _ fun j _ => by rw [← Nat.add_assoc]
  rw [e]
  have e1 : val (fun j => d (k + j)) 1 = d k := by simp [val]
  rw [e1, Int.pow_succ, Int.pow_zero]
  generalize val (fun j => d (k + 1 + j)) (8 - (k + 1)) = R
  omega
theorem top_le {d : Nat → Int} (hd : Digs d) (k : Nat) (hk : k ≤ 8) : top d k ≤ val d 8 := by
  have h := val_split d k (8 - k)
  rw [show k + (8 - k) = 8 by omega] at h
  have h0 : 0 ≤ val d k := val_nonneg k fun j hj => (hd j (by omega)).1
  have h1 : 0 ≤ top d k := val_nonneg _ fun j hj => (hd (k + j) (by omega)).1
  have h2 := pos k
  have h3 : 1 * top d k ≤ 16777216 ^ k * top d k := Int.mul_le_mul_of_nonneg_right (by omega) h1
  unfold top at *
  omega
theorem top_nonneg {d : Nat → Int} (hd : Digs d) (k : Nat) (hk : k ≤ 8) : 0 ≤ top d k := val_nonneg _ fun j hj => (hd (k + j) (by omega)).1

/-- The bit that is next, m bits being left. -/
def bitOf : Nat → Int
  | 0 => 0
  | m + 1 => 2 ^ m
theorem bit_half (m : Nat) : (2 : Int) ^ m / 2 = bitOf m := by
  cases m with
  | zero => rfl
  | succ m => simp only [bitOf, Int.pow_succ]; omega
theorem bit_pos (m : Nat) : (0 : Int) < 2 ^ m := Int.pow_pos (by omega)
theorem bit_le {m : Nat} (h : m < 24) : (2 : Int) ^ m ≤ 8388608 := by
  have h1 : (2 : Int) ^ 23 = 2 ^ m * 2 ^ (23 - m) := by rw [← Int.pow_add]; congr 1; omega
  have h2 := bit_pos (23 - m)
  have h3 := bit_pos m
  have h4 : (2 : Int) ^ m * 1 ≤ 2 ^ m * 2 ^ (23 - m) := Int.mul_le_mul_of_nonneg_left (by omega) (by omega)
  have h5 : (2 : Int) ^ 23 = 8388608 := by decide
  omega

theorem down_bit {P x N q r C : Int} {m : Nat} (hm : m < 24) (hN : N = P * 2 ^ (24 - (m + 1)) + x / 2 ^ (m + 1)) (h : q * C + r = N) : 2 * q * C + (2 * r + x / 2 ^ m % 2) = P * 2 ^ (24 - m) + x / 2 ^ m := by
  have e : x / 2 ^ (m + 1) = x / 2 ^ m / 2 := by rw [Int.pow_succ, Int.ediv_ediv_of_nonneg (Int.le_of_lt (bit_pos m))]
  have e2 : (2 : Int) ^ (24 - m) = 2 ^ (24 - (m + 1)) * 2 := by rw [← Int.pow_succ]; congr 1; omega
  rw [e] at hN
  rw [e2]
  generalize x / 2 ^ m = y at *
  generalize (2 : Int) ^ (24 - (m + 1)) = Z at *
  have h2 : y / 2 * 2 + y % 2 = y := by omega
  subst hN
  grind

theorem down_early {P x N q r C V : Int} {m : Nat} (hm : m < 24) (hP : 0 ≤ P) (hx : 0 ≤ x) (hr : 0 ≤ r) (hC : 0 < C) (hN : N = P * 2 ^ (24 - (m + 1)) + x / 2 ^ (m + 1)) (h : q * C + r = N) (hq : 2305843009213693951 < q) (hV : P * 16777216 + x ≤ V) :
    4611686018427387904 ≤ V / C := by
  apply (Int.le_ediv_iff_mul_le hC).2
  have e1 : (16777216 : Int) = 2 ^ (24 - (m + 1)) * 2 ^ (m + 1) := by rw [← Int.pow_add, show 24 - (m + 1) + (m + 1) = 24 by omega]; decide
  have h1 := bit_pos (24 - (m + 1))
  have h2 := bit_pos m
  have h3 : (2 : Int) ^ (m + 1) = 2 ^ m * 2 := Int.pow_succ ..
  have h4 : 0 ≤ P * 2 ^ (24 - (m + 1)) := Int.mul_nonneg hP (by omega)
  have h5 : P * 2 ^ (24 - (m + 1)) * 2 ≤ P * 2 ^ (24 - (m + 1)) * 2 ^ (m + 1) := Int.mul_le_mul_of_nonneg_left (by omega) h4
  have h6 : P * 16777216 = P * 2 ^ (24 - (m + 1)) * 2 ^ (m + 1) := by rw [Int.mul_assoc, ← e1]
  have h7 : x / 2 ^ (m + 1) * 2 ≤ x := by
    have a := Int.emod_add_mul_ediv x (2 ^ (m + 1))
    have b := Int.emod_nonneg x (by omega : (2 : Int) ^ (m + 1) ≠ 0)
    have c : 0 ≤ x / 2 ^ (m + 1) := Int.ediv_nonneg hx (by omega)
    have d : 2 * (x / 2 ^ (m + 1)) ≤ 2 ^ (m + 1) * (x / 2 ^ (m + 1)) := Int.mul_le_mul_of_nonneg_right (by omega) c
    omega
  have h8 : 2305843009213693952 * C ≤ q * C := Int.mul_le_mul_of_nonneg_right (by omega) (by omega)
  omega

/-- What the quotient is, down, by the sizes' quotient and rest. -/
theorem down_end {n : Bool} {d : Nat → Int} {q r C : Int} (hC : 0 < C) (hr0 : 0 ≤ r) (hr : r < C) (h : q * C + r = val d 8) : sv n d / C = if n then (if r = 0 then -q else -(q + 1)) else q := by
  have hd := Fx.div_of (n := val d 8) (q := q) hC (by omega) (by rw [Int.add_mul]; omega)
  unfold sv
  cases n
  · simp [hd.1]
  · simp only [if_true]
    rw [Fx.neg_div hC, hd.1, hd.2]
    have : (val d 8 - q * C = 0) ↔ r = 0 := by omega
    simp [this]
theorem down_great {n : Bool} {d : Nat → Int} {C : Int} (hC : 0 < C) (h : 4611686018427387904 ≤ val d 8 / C) : Fx.great (sv n d / C) = true := by
  rw [Fx.great_iff]
  unfold sv
  cases n
  · simp; omega
  · simp only [if_true]
    rw [Fx.neg_div hC]
    split <;> omega

set_option maxHeartbeats 2000000 in
theorem down_pos (s : Bool) (a : Nat → Int) (c : Int) (w : World) (ha : Digs a) (hc : 0 < c) (hc2 : c ≤ 4611686018427387903) :
    Calls Try.prog 88 #[wv s a, .int .i64 c] w fun e w' => ∃ n ok, e = .returned (.tuple #[.int .i64 n, .bool ok]) ∧ Hid (ok = !Fx.great (sv s a / c) ∧ n = if ok then sv s a / c else 0) ∧ Hid (Below w.heap.size w w') := by
  obtain ⟨C, hC⟩ : ∃ C, C = c := ⟨_, rfl⟩
  have hC0 : 0 < C := by omega
  have hC1 : C ≤ 4611686018427387903 := by omega
  rw [← hC]
  have HA : Hid _ := ha
  have HG : Hid (4611686018427387904 ≤ val a 8 / C → Fx.great (sv s a / C) = true) := down_great hC0
  have HE : Hid (∀ q r, 0 ≤ r → r < C → q * C + r = val a 8 → sv s a / C = if s then (if r = 0 then -q else -(q + 1)) else q) := fun q r h1 h2 h3 => down_end hC0 h1 h2 h3
  clear ha
  go_enter Try.func88, Try.ntmps88
  go_wp2
  rw [← hC]
  clear hC
  go_loopw [7, 8, 9] (fun qq rr i wr => ∃ (k : Nat) (q r : Int), k ≤ 8 ∧ i = .int .i64 ((k : Int) - 1) ∧ qq = .int .i64 q ∧ rr = .int .i64 r ∧ 0 ≤ q ∧ q ≤ 4611686018427387903 ∧ 0 ≤ r ∧ r < C ∧ Hid (q * C + r = top a k) ∧ Hid (RLies wr w.heap.size s a) ∧ Hid (Below w.heap.size w wr)) (fun _ _ i _ => (intOf i + 1).toNat)
  case atStart => exact ⟨8, 0, 0, Nat.le_refl _, rfl, rfl, rfl, by omega, by omega, by omega, hC0, by show _ = _; rw [top_all]; simp, lies_new w s a 113, new_after w _⟩
  case round =>
    obtain ⟨k, q, r, hk, rfl, rfl, rfl, hq0, hq1, hr0, hr1, HI, HL, HB⟩ := hrel
    match k, hk, HI with
    | 0, _, HI =>
      have HV : Hid _ := HE.out q r hr0 hr1 (by rw [← top_none]; exact HI.out)
      clear HE HG HI HA
      cases s
      · skip
        go_wp2
        go_ret2
        exact ⟨q, true, rfl, ⟨by rw [HV.out, if_neg (by simp), (Fx.not_great _).2 ⟨by omega, hq1⟩]; rfl, by rw [HV.out]; simp⟩, HB.out⟩
      · skip
        rcases Int.lt_trichotomy r 0 with hr | hr | hr
        · omega
        · subst hr
          rw [if_pos (by simp), if_pos rfl] at HV
          go_wp2
          go_ret2
          exact ⟨-q, true, rfl, ⟨by rw [HV.out, (Fx.not_great _).2 ⟨by omega, by omega⟩]; rfl, by rw [HV.out]; simp⟩, HB.out⟩
        · rw [if_pos (by simp), if_neg (by omega)] at HV
          by_cases hm : q = 4611686018427387903
          · subst hm
            go_wp2
            go_ret2
            exact ⟨0, false, rfl, ⟨by rw [HV.out]; decide, by simp⟩, HB.out⟩
          · go_wp2
            go_ret2
            exact ⟨-(q + 1), true, rfl, ⟨by rw [HV.out, (Fx.not_great _).2 ⟨by omega, by omega⟩]; rfl, by rw [HV.out]; simp⟩, HB.out⟩
    | k + 1, hk, HI =>
      have e : ((k + 1 : Nat) : Int) - 1 = (k : Int) := by omega
      rw [e]
      have i0 : (0 : Int) ≤ (k : Int) := by omega
      have i1 : (k : Int) < 8 := by omega
      have c0 := HL.out.dig k (by omega)
      have b0 := HA.out k (by omega)
      have HT : Hid _ := top_step a k (by omega)
      have HP : Hid _ := top_nonneg HA.out (k + 1) (by omega)
      have HW : Hid _ := top_le HA.out k (by omega)
      obtain ⟨x, hx⟩ : ∃ x, x = a k := ⟨_, rfl⟩
      obtain ⟨P, hP⟩ : ∃ P, P = top a (k + 1) := ⟨_, rfl⟩
      rw [← hx] at c0 b0 HT
      rw [← hP] at HT HP HI
      have HX : Hid _ := hx
      clear hx hP e
      by_cases hskip : x = 0 ∧ q = 0 ∧ r = 0
      · obtain ⟨rfl, rfl, rfl⟩ := hskip
        have HM : Hid (0 * C + 0 = top a k) := by show _ = _; rw [HT.out, ← HI.out]; omega
        go_wp2
        go_roundw
        case rel => exact ⟨k, 0, 0, by omega, by go_num, rfl, rfl, by omega, by omega, by omega, hC0, HM.out, HL.out, HB.out⟩
        case measure => show (((k : Int) - 1) + 1).toNat < ((k : Int) + 1).toNat; omega
      · have hor : x ≠ 0 ∨ (x = 0 ∧ q ≠ 0) ∨ (x = 0 ∧ q = 0 ∧ r ≠ 0) := by omega
        clear hskip
        rcases hor with g | ⟨g, g'⟩ | ⟨g, g', g''⟩
        all_goals go_wp2
        all_goals try clear g''
        all_goals try clear g'
        all_goals clear g
        all_goals (
          go_loopw [7, 8, 10] (fun qq rr bb wr => ∃ (m : Nat) (q r : Int), m ≤ 24 ∧ bb = .int .i64 (bitOf m) ∧ qq = .int .i64 q ∧ rr = .int .i64 r ∧ 0 ≤ q ∧ q ≤ 4611686018427387903 ∧ 0 ≤ r ∧ r < C ∧ Hid (q * C + r = P * 2 ^ (24 - m) + x / 2 ^ m) ∧ Hid (RLies wr w.heap.size s a) ∧ Hid (Below w.heap.size w wr)) (fun _ _ bb _ => (intOf bb).toNat)
          case atStart => exact ⟨24, q, r, Nat.le_refl _, by simp [bitOf], rfl, rfl, hq0, hq1, hr0, hr1, by show _ = _; rw [HI.out, Int.ediv_eq_zero_of_lt (by omega) (by simpa using b0.2)]; simp, HL.out, HB.out⟩
          case round =>
            clear HI HL HB c0 hq0 hq1 hr0 hr1
            obtain ⟨m, q, r, hm, rfl, rfl, rfl, hq0, hq1, hr0, hr1, HI, HL, HB⟩ := hrel
            match m, hm, HI with
            | 0, _, HI =>
              have HM : Hid (q * C + r = top a k) := by show _ = _; rw [HI.out, HT.out]; simp
              have hb0 : bitOf 0 = 0 := rfl
              rw [hb0]
              go_wp2
              go_roundw
              case rel => exact ⟨k, q, r, by omega, by go_num, rfl, rfl, hq0, hq1, hr0, hr1, HM.out, HL.out, HB.out⟩
              case measure => show (((k : Int) - 1) + 1).toNat < ((k : Int) + 1).toNat; omega
            | m + 1, hm, HI =>
              have hb0 : bitOf (m + 1) = 2 ^ m := rfl
              rw [hb0]
              have c0 := HL.out.dig k (by omega)
              rw [← HX.out] at c0
              have HN : Hid (∀ q' r' : Int, q' * C + r' = 2 * q * C + (2 * r + x / 2 ^ m % 2) → q' * C + r' = P * 2 ^ (24 - m) + x / 2 ^ m) := fun q' r' h => h.trans (down_bit (by omega : m < 24) rfl HI.out)
              have HY : Hid (2305843009213693951 < q → 4611686018427387904 ≤ val a 8 / C) := fun h => down_early (by omega : m < 24) HP.out b0.1 hr0 hC0 rfl HI.out h (by rw [← HT.out]; exact HW.out)
              have HH : Hid _ := bit_half m
              have hb1 := bit_pos m
              have hb2 := bit_le (by omega : m < 24)
              obtain ⟨bt, hbt⟩ : ∃ b, b = (2 : Int) ^ m := ⟨_, rfl⟩
              rw [← hbt] at HH hb1 hb2
              rw [← hbt]
              have y0 : 0 ≤ x / bt := Int.ediv_nonneg b0.1 (by omega)
              have y1 : x / bt ≤ x := Int.ediv_le_self _ b0.1
              obtain ⟨y, hy⟩ : ∃ y, y = x / bt := ⟨_, rfl⟩
              have HYY : Hid (y = x / 2 ^ m) := by show _ = _; rw [← hbt]; exact hy
              rw [← hy] at y0 y1
              clear hbt hb0 HI
              have hbit : y % 2 = 1 ∨ y % 2 = 0 := by omega
              rcases hbit with hbit | hbit
              · skip
                by_cases hq : 2305843009213693951 < q
                · have HZ : Hid _ := HG.out (HY.out hq)
                  go_wp2
                  go_ret2
                  exact ⟨0, false, rfl, ⟨by rw [HZ.out]; rfl, rfl⟩, HB.out⟩
                by_cases hr : C ≤ 2 * r + 1
                · skip
                  go_wp2
                  go_roundw
                  case rel => exact ⟨m, 2 * q + 1, 2 * r + 1 - C, by omega, by rw [HH.out], rfl, rfl, by omega, by omega, by omega, by omega, HN.out _ _ (by rw [← HYY.out, hbit]; rw [Int.add_mul]; omega), HL.out, HB.out⟩
                  case measure => show (bt / 2).toNat < bt.toNat; omega
                · skip
                  go_wp2
                  go_roundw
                  case rel => exact ⟨m, 2 * q, 2 * r + 1, by omega, by rw [HH.out], rfl, rfl, by omega, by omega, by omega, by omega, HN.out _ _ (by rw [← HYY.out, hbit]), HL.out, HB.out⟩
                  case measure => show (bt / 2).toNat < bt.toNat; omega
              · skip
                by_cases hq : 2305843009213693951 < q
                · have HZ : Hid _ := HG.out (HY.out hq)
                  go_wp2
                  go_ret2
                  exact ⟨0, false, rfl, ⟨by rw [HZ.out]; rfl, rfl⟩, HB.out⟩
                by_cases hr : C ≤ 2 * r
                · skip
                  go_wp2
                  go_roundw
                  case rel => exact ⟨m, 2 * q + 1, 2 * r - C, by omega, by rw [HH.out], rfl, rfl, by omega, by omega, by omega, by omega, HN.out _ _ (by rw [← HYY.out, hbit]; rw [Int.add_mul]; omega), HL.out, HB.out⟩
                  case measure => show (bt / 2).toNat < bt.toNat; omega
                · skip
                  go_wp2
                  go_roundw
                  case rel => exact ⟨m, 2 * q, 2 * r, by omega, by rw [HH.out], rfl, rfl, by omega, by omega, by omega, by omega, HN.out _ _ (by rw [← HYY.out, hbit]; omega), HL.out, HB.out⟩
                  case measure => show (bt / 2).toNat < bt.toNat; omega)

set_option maxHeartbeats 2000000 in
theorem down_neg (s : Bool) (a : Nat → Int) (c : Int) (w : World) (ha : Digs a) (hc : c < 0) (hc2 : -4611686018427387903 ≤ c) :
    Calls Try.prog 88 #[wv s a, .int .i64 c] w fun e w' => ∃ n ok, e = .returned (.tuple #[.int .i64 n, .bool ok]) ∧ Hid (ok = !Fx.great (sv (!s) a / (-c)) ∧ n = if ok then sv (!s) a / (-c) else 0) ∧ Hid (Below w.heap.size w w') := by
  obtain ⟨C, hC⟩ : ∃ C, C = (-c) := ⟨_, rfl⟩
  have hC0 : 0 < C := by omega
  have hC1 : C ≤ 4611686018427387903 := by omega
  rw [← hC]
  have HA : Hid _ := ha
  have HG : Hid (4611686018427387904 ≤ val a 8 / C → Fx.great (sv (!s) a / C) = true) := down_great hC0
  have HE : Hid (∀ q r, 0 ≤ r → r < C → q * C + r = val a 8 → sv (!s) a / C = if (!s) then (if r = 0 then -q else -(q + 1)) else q) := fun q r h1 h2 h3 => down_end hC0 h1 h2 h3
  clear ha
  go_enter Try.func88, Try.ntmps88
  go_wp2
  rw [← hC]
  clear hC
  go_loopw [7, 8, 9] (fun qq rr i wr => ∃ (k : Nat) (q r : Int), k ≤ 8 ∧ i = .int .i64 ((k : Int) - 1) ∧ qq = .int .i64 q ∧ rr = .int .i64 r ∧ 0 ≤ q ∧ q ≤ 4611686018427387903 ∧ 0 ≤ r ∧ r < C ∧ Hid (q * C + r = top a k) ∧ Hid (RLies wr w.heap.size s a) ∧ Hid (Below w.heap.size w wr)) (fun _ _ i _ => (intOf i + 1).toNat)
  case atStart => exact ⟨8, 0, 0, Nat.le_refl _, rfl, rfl, rfl, by omega, by omega, by omega, hC0, by show _ = _; rw [top_all]; simp, lies_new w s a 113, new_after w _⟩
  case round =>
    obtain ⟨k, q, r, hk, rfl, rfl, rfl, hq0, hq1, hr0, hr1, HI, HL, HB⟩ := hrel
    match k, hk, HI with
    | 0, _, HI =>
      have HV : Hid _ := HE.out q r hr0 hr1 (by rw [← top_none]; exact HI.out)
      clear HE HG HI HA
      cases s
      · skip
        rcases Int.lt_trichotomy r 0 with hr | hr | hr
        · omega
        · subst hr
          rw [if_pos (by simp), if_pos rfl] at HV
          go_wp2
          go_ret2
          exact ⟨-q, true, rfl, ⟨by rw [HV.out, (Fx.not_great _).2 ⟨by omega, by omega⟩]; rfl, by rw [HV.out]; simp⟩, HB.out⟩
        · rw [if_pos (by simp), if_neg (by omega)] at HV
          by_cases hm : q = 4611686018427387903
          · subst hm
            go_wp2
            go_ret2
            exact ⟨0, false, rfl, ⟨by rw [HV.out]; decide, by simp⟩, HB.out⟩
          · go_wp2
            go_ret2
            exact ⟨-(q + 1), true, rfl, ⟨by rw [HV.out, (Fx.not_great _).2 ⟨by omega, by omega⟩]; rfl, by rw [HV.out]; simp⟩, HB.out⟩
      · skip
        go_wp2
        go_ret2
        exact ⟨q, true, rfl, ⟨by rw [HV.out, if_neg (by simp), (Fx.not_great _).2 ⟨by omega, hq1⟩]; rfl, by rw [HV.out]; simp⟩, HB.out⟩
    | k + 1, hk, HI =>
      have e : ((k + 1 : Nat) : Int) - 1 = (k : Int) := by omega
      rw [e]
      have i0 : (0 : Int) ≤ (k : Int) := by omega
      have i1 : (k : Int) < 8 := by omega
      have c0 := HL.out.dig k (by omega)
      have b0 := HA.out k (by omega)
      have HT : Hid _ := top_step a k (by omega)
      have HP : Hid _ := top_nonneg HA.out (k + 1) (by omega)
      have HW : Hid _ := top_le HA.out k (by omega)
      obtain ⟨x, hx⟩ : ∃ x, x = a k := ⟨_, rfl⟩
      obtain ⟨P, hP⟩ : ∃ P, P = top a (k + 1) := ⟨_, rfl⟩
      rw [← hx] at c0 b0 HT
      rw [← hP] at HT HP HI
      have HX : Hid _ := hx
      clear hx hP e
      by_cases hskip : x = 0 ∧ q = 0 ∧ r = 0
      · obtain ⟨rfl, rfl, rfl⟩ := hskip
        have HM : Hid (0 * C + 0 = top a k) := by show _ = _; rw [HT.out, ← HI.out]; omega
        go_wp2
        go_roundw
        case rel => exact ⟨k, 0, 0, by omega, by go_num, rfl, rfl, by omega, by omega, by omega, hC0, HM.out, HL.out, HB.out⟩
        case measure => show (((k : Int) - 1) + 1).toNat < ((k : Int) + 1).toNat; omega
      · have hor : x ≠ 0 ∨ (x = 0 ∧ q ≠ 0) ∨ (x = 0 ∧ q = 0 ∧ r ≠ 0) := by omega
        clear hskip
        rcases hor with g | ⟨g, g'⟩ | ⟨g, g', g''⟩
        all_goals go_wp2
        all_goals try clear g''
        all_goals try clear g'
        all_goals clear g
        all_goals (
          go_loopw [7, 8, 10] (fun qq rr bb wr => ∃ (m : Nat) (q r : Int), m ≤ 24 ∧ bb = .int .i64 (bitOf m) ∧ qq = .int .i64 q ∧ rr = .int .i64 r ∧ 0 ≤ q ∧ q ≤ 4611686018427387903 ∧ 0 ≤ r ∧ r < C ∧ Hid (q * C + r = P * 2 ^ (24 - m) + x / 2 ^ m) ∧ Hid (RLies wr w.heap.size s a) ∧ Hid (Below w.heap.size w wr)) (fun _ _ bb _ => (intOf bb).toNat)
          case atStart => exact ⟨24, q, r, Nat.le_refl _, by simp [bitOf], rfl, rfl, hq0, hq1, hr0, hr1, by show _ = _; rw [HI.out, Int.ediv_eq_zero_of_lt (by omega) (by simpa using b0.2)]; simp, HL.out, HB.out⟩
          case round =>
            clear HI HL HB c0 hq0 hq1 hr0 hr1
            obtain ⟨m, q, r, hm, rfl, rfl, rfl, hq0, hq1, hr0, hr1, HI, HL, HB⟩ := hrel
            match m, hm, HI with
            | 0, _, HI =>
              have HM : Hid (q * C + r = top a k) := by show _ = _; rw [HI.out, HT.out]; simp
              have hb0 : bitOf 0 = 0 := rfl
              rw [hb0]
              go_wp2
              go_roundw
              case rel => exact ⟨k, q, r, by omega, by go_num, rfl, rfl, hq0, hq1, hr0, hr1, HM.out, HL.out, HB.out⟩
              case measure => show (((k : Int) - 1) + 1).toNat < ((k : Int) + 1).toNat; omega
            | m + 1, hm, HI =>
              have hb0 : bitOf (m + 1) = 2 ^ m := rfl
              rw [hb0]
              have c0 := HL.out.dig k (by omega)
              rw [← HX.out] at c0
              have HN : Hid (∀ q' r' : Int, q' * C + r' = 2 * q * C + (2 * r + x / 2 ^ m % 2) → q' * C + r' = P * 2 ^ (24 - m) + x / 2 ^ m) := fun q' r' h => h.trans (down_bit (by omega : m < 24) rfl HI.out)
              have HY : Hid (2305843009213693951 < q → 4611686018427387904 ≤ val a 8 / C) := fun h => down_early (by omega : m < 24) HP.out b0.1 hr0 hC0 rfl HI.out h (by rw [← HT.out]; exact HW.out)
              have HH : Hid _ := bit_half m
              have hb1 := bit_pos m
              have hb2 := bit_le (by omega : m < 24)
              obtain ⟨bt, hbt⟩ : ∃ b, b = (2 : Int) ^ m := ⟨_, rfl⟩
              rw [← hbt] at HH hb1 hb2
              rw [← hbt]
              have y0 : 0 ≤ x / bt := Int.ediv_nonneg b0.1 (by omega)
              have y1 : x / bt ≤ x := Int.ediv_le_self _ b0.1
              obtain ⟨y, hy⟩ : ∃ y, y = x / bt := ⟨_, rfl⟩
              have HYY : Hid (y = x / 2 ^ m) := by show _ = _; rw [← hbt]; exact hy
              rw [← hy] at y0 y1
              clear hbt hb0 HI
              have hbit : y % 2 = 1 ∨ y % 2 = 0 := by omega
              rcases hbit with hbit | hbit
              · skip
                by_cases hq : 2305843009213693951 < q
                · have HZ : Hid _ := HG.out (HY.out hq)
                  go_wp2
                  go_ret2
                  exact ⟨0, false, rfl, ⟨by rw [HZ.out]; rfl, rfl⟩, HB.out⟩
                by_cases hr : C ≤ 2 * r + 1
                · skip
                  go_wp2
                  go_roundw
                  case rel => exact ⟨m, 2 * q + 1, 2 * r + 1 - C, by omega, by rw [HH.out], rfl, rfl, by omega, by omega, by omega, by omega, HN.out _ _ (by rw [← HYY.out, hbit]; rw [Int.add_mul]; omega), HL.out, HB.out⟩
                  case measure => show (bt / 2).toNat < bt.toNat; omega
                · skip
                  go_wp2
                  go_roundw
                  case rel => exact ⟨m, 2 * q, 2 * r + 1, by omega, by rw [HH.out], rfl, rfl, by omega, by omega, by omega, by omega, HN.out _ _ (by rw [← HYY.out, hbit]), HL.out, HB.out⟩
                  case measure => show (bt / 2).toNat < bt.toNat; omega
              · skip
                by_cases hq : 2305843009213693951 < q
                · have HZ : Hid _ := HG.out (HY.out hq)
                  go_wp2
                  go_ret2
                  exact ⟨0, false, rfl, ⟨by rw [HZ.out]; rfl, rfl⟩, HB.out⟩
                by_cases hr : C ≤ 2 * r
                · skip
                  go_wp2
                  go_roundw
                  case rel => exact ⟨m, 2 * q + 1, 2 * r - C, by omega, by rw [HH.out], rfl, rfl, by omega, by omega, by omega, by omega, HN.out _ _ (by rw [← HYY.out, hbit]; rw [Int.add_mul]; omega), HL.out, HB.out⟩
                  case measure => show (bt / 2).toNat < bt.toNat; omega
                · skip
                  go_wp2
                  go_roundw
                  case rel => exact ⟨m, 2 * q, 2 * r, by omega, by rw [HH.out], rfl, rfl, by omega, by omega, by omega, by omega, HN.out _ _ (by rw [← HYY.out, hbit]; omega), HL.out, HB.out⟩
                  case measure => show (bt / 2).toNat < bt.toNat; omega)

/-- A quotient, down. -/
theorem down_any (s : Bool) (a : Nat → Int) (c : Int) (w : World) (ha : Digs a) (hc : c ≠ 0) (h1 : -4611686018427387903 ≤ c) (h2 : c ≤ 4611686018427387903) :
    Calls Try.prog 88 #[wv s a, .int .i64 c] w fun e w' => ∃ n ok, e = .returned (.tuple #[.int .i64 n, .bool ok]) ∧ Hid (ok = !Fx.great (Fx.fl (sv s a) c) ∧ n = if ok then Fx.fl (sv s a) c else 0) ∧ Hid (Below w.heap.size w w') := by
  unfold Fx.fl
  by_cases h : c < 0
  · rw [if_pos h, ← sv_not]
    exact down_neg s a c w ha h h1
  · rw [if_neg h]
    exact down_pos s a c w ha (by omega) h2

end Go.Proofs.Ytfalniafkambmaa
