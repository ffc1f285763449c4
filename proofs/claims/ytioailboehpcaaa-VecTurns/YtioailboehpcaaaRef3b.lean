/- The reference's numbers by digits (tumblerref01): sums where the second is the greater. -/
import Derived.Test.YtioailboehpcaaaRef3
namespace Go.Proofs.Ytioailboehpcaaa
open Go.RowKit Ref

theorem size_nine {W : World} {b : Nat} {s : Bool} {d : Nat → Int} : (((((((((W.setCell ⟨b, 0, none⟩ (.bool s)).setCell ⟨b, 1, none⟩ (.int .i64 (d 0))).setCell ⟨b, 2, none⟩ (.int .i64 (d 1))).setCell ⟨b, 3, none⟩ (.int .i64 (d 2))).setCell ⟨b, 4, none⟩ (.int .i64 (d 3))).setCell ⟨b, 5, none⟩ (.int .i64 (d 4))).setCell ⟨b, 6, none⟩ (.int .i64 (d 5))).setCell ⟨b, 7, none⟩ (.int .i64 (d 6))).setCell ⟨b, 8, none⟩ (.int .i64 (d 7))).heap.size = W.heap.size := by simp [World.setCell]

/-- The two boxes, one taken for the other. -/
theorem swapped {w w1 : World} {s t : Bool} {a b : Nat → Int} (LA : Lies w1 w.heap.size s a) (LB : Lies w1 (w.heap.size + 1) t b) (LZ : Lies w1 (w.heap.size + 1 + 1) false (fun _ => 0)) (HB : Below w.heap.size w w1) :
    Lies ((((((((((((((((((((w1.setCell ⟨w.heap.size, 0, none⟩ (.bool t)).setCell ⟨w.heap.size, 1, none⟩ (.int .i64 (b 0))).setCell ⟨w.heap.size, 2, none⟩ (.int .i64 (b 1))).setCell ⟨w.heap.size, 3, none⟩ (.int .i64 (b 2))).setCell ⟨w.heap.size, 4, none⟩ (.int .i64 (b 3))).setCell ⟨w.heap.size, 5, none⟩ (.int .i64 (b 4))).setCell ⟨w.heap.size, 6, none⟩ (.int .i64 (b 5))).setCell ⟨w.heap.size, 7, none⟩ (.int .i64 (b 6))).setCell ⟨w.heap.size, 8, none⟩ (.int .i64 (b 7))).setCell ⟨(w.heap.size + 1), 0, none⟩ (.bool s)).setCell ⟨(w.heap.size + 1), 1, none⟩ (.int .i64 (a 0))).setCell ⟨(w.heap.size + 1), 2, none⟩ (.int .i64 (a 1))).setCell ⟨(w.heap.size + 1), 3, none⟩ (.int .i64 (a 2))).setCell ⟨(w.heap.size + 1), 4, none⟩ (.int .i64 (a 3))).setCell ⟨(w.heap.size + 1), 5, none⟩ (.int .i64 (a 4))).setCell ⟨(w.heap.size + 1), 6, none⟩ (.int .i64 (a 5))).setCell ⟨(w.heap.size + 1), 7, none⟩ (.int .i64 (a 6))).setCell ⟨(w.heap.size + 1), 8, none⟩ (.int .i64 (a 7))).alloc (.cells #[.bool s, .int .i64 (a 0), .int .i64 (a 1), .int .i64 (a 2), .int .i64 (a 3), .int .i64 (a 4), .int .i64 (a 5), .int .i64 (a 6), .int .i64 (a 7)] 84)).alloc (.cells #[.bool t, .int .i64 (b 0), .int .i64 (b 1), .int .i64 (b 2), .int .i64 (b 3), .int .i64 (b 4), .int .i64 (b 5), .int .i64 (b 6), .int .i64 (b 7)] 84)) w.heap.size t b ∧ Lies ((((((((((((((((((((w1.setCell ⟨w.heap.size, 0, none⟩ (.bool t)).setCell ⟨w.heap.size, 1, none⟩ (.int .i64 (b 0))).setCell ⟨w.heap.size, 2, none⟩ (.int .i64 (b 1))).setCell ⟨w.heap.size, 3, none⟩ (.int .i64 (b 2))).setCell ⟨w.heap.size, 4, none⟩ (.int .i64 (b 3))).setCell ⟨w.heap.size, 5, none⟩ (.int .i64 (b 4))).setCell ⟨w.heap.size, 6, none⟩ (.int .i64 (b 5))).setCell ⟨w.heap.size, 7, none⟩ (.int .i64 (b 6))).setCell ⟨w.heap.size, 8, none⟩ (.int .i64 (b 7))).setCell ⟨(w.heap.size + 1), 0, none⟩ (.bool s)).setCell ⟨(w.heap.size + 1), 1, none⟩ (.int .i64 (a 0))).setCell ⟨(w.heap.size + 1), 2, none⟩ (.int .i64 (a 1))).setCell ⟨(w.heap.size + 1), 3, none⟩ (.int .i64 (a 2))).setCell ⟨(w.heap.size + 1), 4, none⟩ (.int .i64 (a 3))).setCell ⟨(w.heap.size + 1), 5, none⟩ (.int .i64 (a 4))).setCell ⟨(w.heap.size + 1), 6, none⟩ (.int .i64 (a 5))).setCell ⟨(w.heap.size + 1), 7, none⟩ (.int .i64 (a 6))).setCell ⟨(w.heap.size + 1), 8, none⟩ (.int .i64 (a 7))).alloc (.cells #[.bool s, .int .i64 (a 0), .int .i64 (a 1), .int .i64 (a 2), .int .i64 (a 3), .int .i64 (a 4), .int .i64 (a 5), .int .i64 (a 6), .int .i64 (a 7)] 84)).alloc (.cells #[.bool t, .int .i64 (b 0), .int .i64 (b 1), .int .i64 (b 2), .int .i64 (b 3), .int .i64 (b 4), .int .i64 (b 5), .int .i64 (b 6), .int .i64 (b 7)] 84)) (w.heap.size + 1) s a ∧ Lies ((((((((((((((((((((w1.setCell ⟨w.heap.size, 0, none⟩ (.bool t)).setCell ⟨w.heap.size, 1, none⟩ (.int .i64 (b 0))).setCell ⟨w.heap.size, 2, none⟩ (.int .i64 (b 1))).setCell ⟨w.heap.size, 3, none⟩ (.int .i64 (b 2))).setCell ⟨w.heap.size, 4, none⟩ (.int .i64 (b 3))).setCell ⟨w.heap.size, 5, none⟩ (.int .i64 (b 4))).setCell ⟨w.heap.size, 6, none⟩ (.int .i64 (b 5))).setCell ⟨w.heap.size, 7, none⟩ (.int .i64 (b 6))).setCell ⟨w.heap.size, 8, none⟩ (.int .i64 (b 7))).setCell ⟨(w.heap.size + 1), 0, none⟩ (.bool s)).setCell ⟨(w.heap.size + 1), 1, none⟩ (.int .i64 (a 0))).setCell ⟨(w.heap.size + 1), 2, none⟩ (.int .i64 (a 1))).setCell ⟨(w.heap.size + 1), 3, none⟩ (.int .i64 (a 2))).setCell ⟨(w.heap.size + 1), 4, none⟩ (.int .i64 (a 3))).setCell ⟨(w.heap.size + 1), 5, none⟩ (.int .i64 (a 4))).setCell ⟨(w.heap.size + 1), 6, none⟩ (.int .i64 (a 5))).setCell ⟨(w.heap.size + 1), 7, none⟩ (.int .i64 (a 6))).setCell ⟨(w.heap.size + 1), 8, none⟩ (.int .i64 (a 7))).alloc (.cells #[.bool s, .int .i64 (a 0), .int .i64 (a 1), .int .i64 (a 2), .int .i64 (a 3), .int .i64 (a 4), .int .i64 (a 5), .int .i64 (a 6), .int .i64 (a 7)] 84)).alloc (.cells #[.bool t, .int .i64 (b 0), .int .i64 (b 1), .int .i64 (b 2), .int .i64 (b 3), .int .i64 (b 4), .int .i64 (b 5), .int .i64 (b 6), .int .i64 (b 7)] 84)) (w.heap.size + 1 + 1) false (fun _ => 0) ∧
    Lies ((((((((((((((((((((w1.setCell ⟨w.heap.size, 0, none⟩ (.bool t)).setCell ⟨w.heap.size, 1, none⟩ (.int .i64 (b 0))).setCell ⟨w.heap.size, 2, none⟩ (.int .i64 (b 1))).setCell ⟨w.heap.size, 3, none⟩ (.int .i64 (b 2))).setCell ⟨w.heap.size, 4, none⟩ (.int .i64 (b 3))).setCell ⟨w.heap.size, 5, none⟩ (.int .i64 (b 4))).setCell ⟨w.heap.size, 6, none⟩ (.int .i64 (b 5))).setCell ⟨w.heap.size, 7, none⟩ (.int .i64 (b 6))).setCell ⟨w.heap.size, 8, none⟩ (.int .i64 (b 7))).setCell ⟨(w.heap.size + 1), 0, none⟩ (.bool s)).setCell ⟨(w.heap.size + 1), 1, none⟩ (.int .i64 (a 0))).setCell ⟨(w.heap.size + 1), 2, none⟩ (.int .i64 (a 1))).setCell ⟨(w.heap.size + 1), 3, none⟩ (.int .i64 (a 2))).setCell ⟨(w.heap.size + 1), 4, none⟩ (.int .i64 (a 3))).setCell ⟨(w.heap.size + 1), 5, none⟩ (.int .i64 (a 4))).setCell ⟨(w.heap.size + 1), 6, none⟩ (.int .i64 (a 5))).setCell ⟨(w.heap.size + 1), 7, none⟩ (.int .i64 (a 6))).setCell ⟨(w.heap.size + 1), 8, none⟩ (.int .i64 (a 7))).alloc (.cells #[.bool s, .int .i64 (a 0), .int .i64 (a 1), .int .i64 (a 2), .int .i64 (a 3), .int .i64 (a 4), .int .i64 (a 5), .int .i64 (a 6), .int .i64 (a 7)] 84)).alloc (.cells #[.bool t, .int .i64 (b 0), .int .i64 (b 1), .int .i64 (b 2), .int .i64 (b 3), .int .i64 (b 4), .int .i64 (b 5), .int .i64 (b 6), .int .i64 (b 7)] 84)) (w1.heap.size + 1) t b ∧ Below w.heap.size w ((((((((((((((((((((w1.setCell ⟨w.heap.size, 0, none⟩ (.bool t)).setCell ⟨w.heap.size, 1, none⟩ (.int .i64 (b 0))).setCell ⟨w.heap.size, 2, none⟩ (.int .i64 (b 1))).setCell ⟨w.heap.size, 3, none⟩ (.int .i64 (b 2))).setCell ⟨w.heap.size, 4, none⟩ (.int .i64 (b 3))).setCell ⟨w.heap.size, 5, none⟩ (.int .i64 (b 4))).setCell ⟨w.heap.size, 6, none⟩ (.int .i64 (b 5))).setCell ⟨w.heap.size, 7, none⟩ (.int .i64 (b 6))).setCell ⟨w.heap.size, 8, none⟩ (.int .i64 (b 7))).setCell ⟨(w.heap.size + 1), 0, none⟩ (.bool s)).setCell ⟨(w.heap.size + 1), 1, none⟩ (.int .i64 (a 0))).setCell ⟨(w.heap.size + 1), 2, none⟩ (.int .i64 (a 1))).setCell ⟨(w.heap.size + 1), 3, none⟩ (.int .i64 (a 2))).setCell ⟨(w.heap.size + 1), 4, none⟩ (.int .i64 (a 3))).setCell ⟨(w.heap.size + 1), 5, none⟩ (.int .i64 (a 4))).setCell ⟨(w.heap.size + 1), 6, none⟩ (.int .i64 (a 5))).setCell ⟨(w.heap.size + 1), 7, none⟩ (.int .i64 (a 6))).setCell ⟨(w.heap.size + 1), 8, none⟩ (.int .i64 (a 7))).alloc (.cells #[.bool s, .int .i64 (a 0), .int .i64 (a 1), .int .i64 (a 2), .int .i64 (a 3), .int .i64 (a 4), .int .i64 (a 5), .int .i64 (a 6), .int .i64 (a 7)] 84)).alloc (.cells #[.bool t, .int .i64 (b 0), .int .i64 (b 1), .int .i64 (b 2), .int .i64 (b 3), .int .i64 (b 4), .int .i64 (b 5), .int .i64 (b 6), .int .i64 (b 7)] 84)) := by
  have hs : ((((((((((((((((((w1.setCell ⟨w.heap.size, 0, none⟩ (.bool t)).setCell ⟨w.heap.size, 1, none⟩ (.int .i64 (b 0))).setCell ⟨w.heap.size, 2, none⟩ (.int .i64 (b 1))).setCell ⟨w.heap.size, 3, none⟩ (.int .i64 (b 2))).setCell ⟨w.heap.size, 4, none⟩ (.int .i64 (b 3))).setCell ⟨w.heap.size, 5, none⟩ (.int .i64 (b 4))).setCell ⟨w.heap.size, 6, none⟩ (.int .i64 (b 5))).setCell ⟨w.heap.size, 7, none⟩ (.int .i64 (b 6))).setCell ⟨w.heap.size, 8, none⟩ (.int .i64 (b 7))).setCell ⟨(w.heap.size + 1), 0, none⟩ (.bool s)).setCell ⟨(w.heap.size + 1), 1, none⟩ (.int .i64 (a 0))).setCell ⟨(w.heap.size + 1), 2, none⟩ (.int .i64 (a 1))).setCell ⟨(w.heap.size + 1), 3, none⟩ (.int .i64 (a 2))).setCell ⟨(w.heap.size + 1), 4, none⟩ (.int .i64 (a 3))).setCell ⟨(w.heap.size + 1), 5, none⟩ (.int .i64 (a 4))).setCell ⟨(w.heap.size + 1), 6, none⟩ (.int .i64 (a 5))).setCell ⟨(w.heap.size + 1), 7, none⟩ (.int .i64 (a 6))).setCell ⟨(w.heap.size + 1), 8, none⟩ (.int .i64 (a 7))).heap.size = w1.heap.size := by rw [size_nine, size_nine]
  refine ⟨(((lies_nine LA).nine (by omega)).alloc _).alloc _, ((lies_nine (LB.nine (by omega))).alloc _).alloc _, (((LZ.nine (by omega)).nine (by omega)).alloc _).alloc _, ?_, ?_⟩
  · have := lies_new (((((((((((((((((((w1.setCell ⟨w.heap.size, 0, none⟩ (.bool t)).setCell ⟨w.heap.size, 1, none⟩ (.int .i64 (b 0))).setCell ⟨w.heap.size, 2, none⟩ (.int .i64 (b 1))).setCell ⟨w.heap.size, 3, none⟩ (.int .i64 (b 2))).setCell ⟨w.heap.size, 4, none⟩ (.int .i64 (b 3))).setCell ⟨w.heap.size, 5, none⟩ (.int .i64 (b 4))).setCell ⟨w.heap.size, 6, none⟩ (.int .i64 (b 5))).setCell ⟨w.heap.size, 7, none⟩ (.int .i64 (b 6))).setCell ⟨w.heap.size, 8, none⟩ (.int .i64 (b 7))).setCell ⟨(w.heap.size + 1), 0, none⟩ (.bool s)).setCell ⟨(w.heap.size + 1), 1, none⟩ (.int .i64 (a 0))).setCell ⟨(w.heap.size + 1), 2, none⟩ (.int .i64 (a 1))).setCell ⟨(w.heap.size + 1), 3, none⟩ (.int .i64 (a 2))).setCell ⟨(w.heap.size + 1), 4, none⟩ (.int .i64 (a 3))).setCell ⟨(w.heap.size + 1), 5, none⟩ (.int .i64 (a 4))).setCell ⟨(w.heap.size + 1), 6, none⟩ (.int .i64 (a 5))).setCell ⟨(w.heap.size + 1), 7, none⟩ (.int .i64 (a 6))).setCell ⟨(w.heap.size + 1), 8, none⟩ (.int .i64 (a 7))).alloc (.cells #[.bool s, .int .i64 (a 0), .int .i64 (a 1), .int .i64 (a 2), .int .i64 (a 3), .int .i64 (a 4), .int .i64 (a 5), .int .i64 (a 6), .int .i64 (a 7)] 84)) t b 84
    rwa [World.size_alloc, hs] at this
  · have h1 : Below w.heap.size w ((((((((((((((((((w1.setCell ⟨w.heap.size, 0, none⟩ (.bool t)).setCell ⟨w.heap.size, 1, none⟩ (.int .i64 (b 0))).setCell ⟨w.heap.size, 2, none⟩ (.int .i64 (b 1))).setCell ⟨w.heap.size, 3, none⟩ (.int .i64 (b 2))).setCell ⟨w.heap.size, 4, none⟩ (.int .i64 (b 3))).setCell ⟨w.heap.size, 5, none⟩ (.int .i64 (b 4))).setCell ⟨w.heap.size, 6, none⟩ (.int .i64 (b 5))).setCell ⟨w.heap.size, 7, none⟩ (.int .i64 (b 6))).setCell ⟨w.heap.size, 8, none⟩ (.int .i64 (b 7))).setCell ⟨(w.heap.size + 1), 0, none⟩ (.bool s)).setCell ⟨(w.heap.size + 1), 1, none⟩ (.int .i64 (a 0))).setCell ⟨(w.heap.size + 1), 2, none⟩ (.int .i64 (a 1))).setCell ⟨(w.heap.size + 1), 3, none⟩ (.int .i64 (a 2))).setCell ⟨(w.heap.size + 1), 4, none⟩ (.int .i64 (a 3))).setCell ⟨(w.heap.size + 1), 5, none⟩ (.int .i64 (a 4))).setCell ⟨(w.heap.size + 1), 6, none⟩ (.int .i64 (a 5))).setCell ⟨(w.heap.size + 1), 7, none⟩ (.int .i64 (a 6))).setCell ⟨(w.heap.size + 1), 8, none⟩ (.int .i64 (a 7))) := below_nine (below_nine HB (Nat.le_refl _)) (by omega)
    have h2 := h1.size
    exact (h1.alloc h2 _).alloc (by rw [World.size_alloc]; omega) _

set_option maxHeartbeats 1000000 in
theorem plus_swap (s t : Bool) (a b : Nat → Int) (w : World) (ha : Digs a) (hb : Digs b) (hst : s ≠ t) (hle : val a 8 < val b 8) :
    Calls Try.prog 70 #[wv s a, wv t b] w fun e w' => ∃ u d, e = .returned (wv u d) ∧ Hid (Digs d ∧ sv u d = sv s a + sv t b) ∧ Hid (Below w.heap.size w w') := by
  have HS : Hid _ := fun w => sizes_any s t a b w ha hb
  have HC : Hid _ := ha
  have HA : Hid _ := hb
  have HF : Hid (s ≠ t ∧ val a 8 < val b 8) := ⟨hst, hle⟩
  have hb1 : (s == t) = false := by simp [hst]
  clear ha hb hst hle
  go_enter Try.func70, Try.ntmps70
  go_wp2_with (fail)
  refine (HS.out _).mono ?_
  rintro e w1 ⟨c, rfl, SC, B⟩
  have hc0 : c < 0 := by have := HF.out.2; rcases SC.out with h | h | h <;> omega
  have LA : Hid _ := Lies.below (Lies.alloc (Lies.alloc (by show Lies _ _ _ _; have := lies_new w s a 84; simpa only [World.size_alloc] using this) _) _) B.out (by first | (simp; done) | (simp; omega))
  have LB : Hid _ := Lies.below (Lies.alloc (by show Lies _ _ _ _; have := lies_new (w.alloc (.cells #[.bool s, .int .i64 (a 0), .int .i64 (a 1), .int .i64 (a 2), .int .i64 (a 3), .int .i64 (a 4), .int .i64 (a 5), .int .i64 (a 6), .int .i64 (a 7)] 84)) t b 84; simpa only [World.size_alloc] using this) _) B.out (by first | (simp; done) | (simp; omega))
  have LZ : Hid _ := Lies.below (by show Lies _ _ _ _; have := lies_new ((w.alloc (.cells #[.bool s, .int .i64 (a 0), .int .i64 (a 1), .int .i64 (a 2), .int .i64 (a 3), .int .i64 (a 4), .int .i64 (a 5), .int .i64 (a 6), .int .i64 (a 7)] 84)).alloc (.cells #[.bool t, .int .i64 (b 0), .int .i64 (b 1), .int .i64 (b 2), .int .i64 (b 3), .int .i64 (b 4), .int .i64 (b 5), .int .i64 (b 6), .int .i64 (b 7)] 84)) false (fun _ => 0) 84; simpa only [World.size_alloc] using this) B.out (by first | (simp; done) | (simp; omega))
  have hs1 := B.out.size
  simp only [World.size_alloc] at hs1
  have HB : Hid _ := below_step (w := w) (((new_after w _).alloc (by simp) _).alloc (by simp; omega) _) B.out
  obtain ⟨a0, a1, a2, a3, a4, a5, a6, a7, a8⟩ := LA.out.cells
  obtain ⟨g0, g1, g2, g3, g4, g5, g6, g7, g8⟩ := LA.out.frees
  obtain ⟨b0, b1, b2, b3, b4, b5, b6, b7, b8⟩ := LB.out.cells
  obtain ⟨h0, h1, h2, h3, h4, h5, h6, h7, h8⟩ := LB.out.frees
  have m0 : w.heap.size < w1.heap.size := by omega
  have m1 : w.heap.size + 1 < w1.heap.size := by omega
  have n0 : w.heap.size ≠ w1.heap.size := by omega
  have n1 : w.heap.size + 1 ≠ w1.heap.size := by omega
  have n2 : w1.heap.size ≠ w.heap.size := by omega
  have n3 : w1.heap.size ≠ w.heap.size + 1 := by omega
  clear HS SC B
  go_wp2
  obtain ⟨x1, x2, x3, x4, x5⟩ := swapped LA.out LB.out LZ.out HB.out
  have X1 : Hid _ := x1
  have X2 : Hid _ := x2
  have X3 : Hid _ := x3
  have X4 : Hid _ := x4
  have X5 : Hid _ := x5
  clear x1 x2 x3 x4 x5 LA LB LZ HB a0 a1 a2 a3 a4 a5 a6 a7 a8 g0 g1 g2 g3 g4 g5 g6 g7 g8 b0 b1 b2 b3 b4 b5 b6 b7 b8 h0 h1 h2 h3 h4 h5 h6 h7 h8
  obtain ⟨OUT, hOUT⟩ : ∃ o, o = w1.heap.size + 1 := ⟨_, rfl⟩
  rw [← hOUT]
  rw [← hOUT] at X4
  have hs2 : w.heap.size + 3 < OUT := by omega
  clear hOUT
  go_loopw [11, 12] (fun cc i wr => ∃ (k : Nat) (d : Nat → Int) (c : Int), k ≤ 8 ∧ i = .int .i64 k ∧ cc = .int .i64 c ∧ 0 ≤ c ∧ c ≤ 1 ∧ Hid (Digs d ∧ val d k - c * 16777216 ^ k = val b k - val a k) ∧ Hid (Lies wr w.heap.size t b) ∧ Hid (Lies wr (w.heap.size + 1) s a) ∧ Hid (Lies wr (w.heap.size + 1 + 1) false (fun _ => 0)) ∧ Hid (Lies wr OUT t d) ∧ Hid (Below w.heap.size w wr)) (fun _ i _ => 8 - (intOf i).toNat)
  case atStart =>
    exact ⟨0, b, 0, Nat.zero_le _, rfl, rfl, by omega, by omega, ⟨HA.out, by simp [val]⟩, X1, X2, X3, X4, X5⟩
  case round =>
    obtain ⟨k, d, c, hk, rfl, rfl, hc0, hc1, HD, HL, HR, HZ, HO, HB⟩ := hrel
    by_cases hlt : k < 8
    · have e1 := HL.out.dig k hlt
      have e2 := HR.out.dig k hlt
      have e3 := HO.out.dig k hlt
      have e4 := HO.out.free (1 + k) (by omega)
      have i0 : (0 : Int) ≤ (k : Int) := by omega
      have i1 : (k : Int) < 8 := by omega
      have b1 := HA.out k hlt
      have b2 := HC.out k hlt
      have HN : Hid _ := fun n c' hn => dif_next (n := n) (c' := c') HA.out HC.out HD.out.1 hlt ⟨hc0, hc1⟩ HD.out.2 hn
      obtain ⟨p, hp⟩ : ∃ p, p = b k := ⟨_, rfl⟩
      obtain ⟨q, hq⟩ : ∃ q, q = a k := ⟨_, rfl⟩
      rw [← hp] at e1 b1 HN
      rw [← hq] at e2 b2 HN
      clear hp hq
      by_cases hneg : p - q - c < 0
      · have HM : Hid _ := HN.out _ _ (Or.inl ⟨hneg, rfl, rfl⟩)
        clear HN
        go_wp2
        go_region
        all_goals go_wp2
        all_goals go_roundw
        all_goals try (case rel => obtain ⟨n1, n2, n3, n4⟩ := HM.out; exact ⟨k + 1, put d k (p - q - c + 16777216), 1, by omega, by go_num, rfl, n2, n3, ⟨n1, n4⟩, (HL.out.otherAt (by omega) _).drew, (HR.out.otherAt (by omega) _).drew, (HZ.out.otherAt (by omega) _).drew, (HO.out.put hlt _).drew, (setAt HB.out (by omega) _).drew⟩)
        all_goals try (case measure => simp [intOf]; omega)
      · have HM : Hid _ := HN.out _ _ (Or.inr ⟨by omega, rfl, rfl⟩)
        clear HN
        go_wp2
        go_region
        all_goals go_wp2
        all_goals go_roundw
        all_goals try (case rel => obtain ⟨n1, n2, n3, n4⟩ := HM.out; exact ⟨k + 1, put d k (p - q - c), 0, by omega, by go_num, rfl, n2, n3, ⟨n1, n4⟩, (HL.out.otherAt (by omega) _).drew, (HR.out.otherAt (by omega) _).drew, (HZ.out.otherAt (by omega) _).drew, (HO.out.put hlt _).drew, (setAt HB.out (by omega) _).drew⟩)
        all_goals try (case measure => simp [intOf]; omega)
    · have hk8 : 8 ≤ (k : Int) := by omega
      have e8 : k = 8 := by omega
      have HE : Hid (Digs d ∧ sv t d = sv s a + sv t b) := by
        obtain ⟨d1, d2⟩ := HD.out
        rw [e8] at d2
        exact ⟨d1, dif_sv' HF.out.1 (dif_done d1 hc0 d2 (Int.le_of_lt HF.out.2))⟩
      obtain ⟨c0, c1, c2, c3, c4, c5, c6, c7, c8⟩ := HO.out.cells
      obtain ⟨r0, r1, r2, r3, r4, r5, r6, r7, r8⟩ := HZ.out.cells
      obtain ⟨f0, f1, f2, f3, f4, f5, f6, f7, f8⟩ := HZ.out.frees
      clear e8 HD HF HA HC
      go_wp2
      try simp only [Exit.inBlock, Exit.then]
      refine bodyPost_ret (by simp [results, Try.results70, go_sem, r0, r1, r2, r3, r4, r5, r6, r7, r8]; try rfl) rfl ?_
      exact ⟨_, d, rfl, HE.out, below_nine HB.out (by omega)⟩

/-- A sum. -/
theorem plusw_any (s t : Bool) (a b : Nat → Int) (w : World) (ha : Digs a) (hb : Digs b) (hfit : (sv s a + sv t b).natAbs < 6277101735386680763835789423207666416102355444464034512896) :
    Calls Try.prog 70 #[wv s a, wv t b] w fun e w' => ∃ u d, e = .returned (wv u d) ∧ Hid (Digs d ∧ sv u d = sv s a + sv t b) ∧ Hid (Below w.heap.size w w') := by
  by_cases hst : s = t
  · subst hst; exact plus_same s a b w ha hb hfit
  · by_cases hle : val b 8 ≤ val a 8
    · exact plus_other s t a b w ha hb hst hle
    · exact plus_swap s t a b w ha hb hst (by omega)

theorem sv_not (t : Bool) (b : Nat → Int) : sv (!t) b = -sv t b := by unfold sv; cases t <;> simp

set_option maxHeartbeats 1000000 in
theorem less_any (s t : Bool) (a b : Nat → Int) (w : World) (ha : Digs a) (hb : Digs b) (hfit : (sv s a - sv t b).natAbs < 6277101735386680763835789423207666416102355444464034512896) :
    Calls Try.prog 73 #[wv s a, wv t b] w fun e w' => ∃ c, e = .returned (.bool c) ∧ Hid (c = true ↔ sv s a < sv t b) ∧ Hid (Below w.heap.size w w') := by
  have HP : Hid _ := fun w => plusw_any s (!t) a b w ha hb (by rw [sv_not]; exact hfit)
  clear ha hb hfit
  go_enter Try.func73, Try.ntmps73
  go_wp2_with (fail)
  refine (HP.out _).mono ?_
  rintro e w1 ⟨u, d, rfl, SC, B⟩
  have HS : Hid _ := fun w => sign_any u d w SC.out.1
  have HB : Hid _ := below_step (w := w) ((new_after w _).alloc (by simp) _) B.out
  clear B HP
  go_wp2_with (fail)
  refine (HS.out _).mono ?_
  rintro e w2 ⟨c, rfl, SD, B⟩
  have HB2 : Hid _ := below_step HB.out B.out
  clear B HS HB
  go_wp2_with (fail)
  go_ret
  refine ⟨_, rfl, ?_, HB2.out⟩
  have h1 := SD.out.2.2
  have h2 := SC.out.2
  rw [sv_not] at h2
  show _ ↔ _
  simp only [decide_eq_true_eq]
  omega

end Go.Proofs.Ytioailboehpcaaa
