/- Package vec's inner functions: what gets out. -/
import Derived.Test.YtocdompopadanaaVecV
namespace Go.Proofs.Ytocdompopadanaa
open Go.RowKit Fx

theorem Leaves.own {p : Addr} {W w : World} (h : Leaves p W w) (v : Value) : Leaves p W (w.setCell p v) := by
  refine ⟨by simpa [World.setCell] using h.size, fun q hq hne => ?_, fun B w' hb h1 h2 => (h.below B w' hb h1 h2).setCell h1 v, ⟨h.kept.1, h.kept.2.1, h.kept.2.2.1, fun i hi hne => (Below.heap_setCell _ _ _ _ hne).trans (h.kept.2.2.2 i hi hne)⟩, fun hp o ho => ⟨(World.cell?_setCell_other _ _ _ _ (fun e => ho (by cases p; exact ((Addr.mk.inj e).2.1).symm))).trans (h.beside hp o ho).1, by rw [show (w.setCell p v).frozen? ⟨p.block, o, none⟩ = w.frozen? ⟨p.block, o, none⟩ by simp [go_sem]]; exact (h.beside hp o ho).2⟩⟩
  exact ⟨(World.cell?_of_block (w := w) (Below.heap_setCell _ _ _ _ hne)).trans (h.other q hq hne).1, (World.frozen?_of_block (w := w) (Below.heap_setCell _ _ _ _ hne)).trans (h.other q hq hne).2⟩

set_option maxHeartbeats 1000000 in
theorem tell3_any (b off o : Nat) (f g : Bool) (x0 x1 x2 : Int) (W : World) (hc : W.cell? ⟨b, off, none⟩ = some (.bool f)) (hf : W.frozen? ⟨b, off, none⟩ = false) (ho : W.cell? ⟨o, 0, none⟩ = some (.bool g)) :
    Calls Try.prog 78 #[.pointer (some ⟨b, off, none⟩), .pointer (some ⟨o, 0, none⟩), .agg #[.int .i64 x0, .int .i64 x1, .int .i64 x2]] W fun e W' =>
      e = .returned (.agg #[.int .i64 (cond g 0 x0), .int .i64 (cond g 0 x1), .int .i64 (cond g 0 x2)]) ∧ Hid (After ⟨b, off, none⟩ (f || g) W W') := by
  have m1 : b < W.heap.size := World.block_lt_of_cell? _ _ hc
  have m2 : o < W.heap.size := World.block_lt_of_cell? _ _ ho
  have HL : Hid _ := Leaves.refl ⟨b, off, none⟩ W
  have n1 : b ≠ W.heap.size := by omega
  have n2 : o ≠ W.heap.size := by omega
  have n3 : W.heap.size ≠ b := by omega
  cases g
  · go_enter Try.func78, Try.ntmps78
    go_wp2
    go_returns
    refine ⟨rfl, ((HL.out.alloc _).alloc _).done ?_ ?_⟩
    · rw [World.cell?_alloc_past _ _ _ (by rw [World.size_alloc]; omega), World.cell?_alloc_past _ _ _ m1, hc]; simp
    · rw [((new_after _ _).frozen (by rw [World.size_alloc]; show b < _; omega)), ((new_after _ _).frozen (show b < _ from m1)), hf]
  · go_enter Try.func78, Try.ntmps78
    go_wp2
    go_returns
    refine ⟨rfl, ((((HL.out.own _).alloc _).alloc _).alloc _).done ?_ ?_⟩
    · have e : (W.setCell ⟨b, off, none⟩ (.bool true)).cell? ⟨b, off, none⟩ = some (.bool true) := by simp [go_sem, hc]
      have s : (W.setCell ⟨b, off, none⟩ (.bool true)).heap.size = W.heap.size := by simp [World.setCell]
      rw [World.cell?_alloc_past _ _ _ (by rw [World.size_alloc, World.size_alloc, s]; omega), World.cell?_alloc_past _ _ _ (by rw [World.size_alloc, s]; omega), World.cell?_alloc_past _ _ _ (by rw [s]; omega), e]; simp
    · have e : (W.setCell ⟨b, off, none⟩ (.bool true)).frozen? ⟨b, off, none⟩ = false := by simp [go_sem, hf]
      have s : (W.setCell ⟨b, off, none⟩ (.bool true)).heap.size = W.heap.size := by simp [World.setCell]
      rw [((new_after _ _).frozen (by rw [World.size_alloc, World.size_alloc, s]; show b < _; omega)), ((new_after _ _).frozen (by rw [World.size_alloc, s]; show b < _; omega)), ((new_after _ _).frozen (by rw [s]; exact m1)), e]

set_option maxHeartbeats 1000000 in
theorem tell9_any (b off o : Nat) (f g : Bool) (x0 x1 x2 x3 x4 x5 x6 x7 x8 : Int) (W : World) (hc : W.cell? ⟨b, off, none⟩ = some (.bool f)) (hf : W.frozen? ⟨b, off, none⟩ = false) (ho : W.cell? ⟨o, 0, none⟩ = some (.bool g)) :
    Calls Try.prog 76 #[.pointer (some ⟨b, off, none⟩), .pointer (some ⟨o, 0, none⟩), .agg #[.int .i64 x0, .int .i64 x1, .int .i64 x2, .int .i64 x3, .int .i64 x4, .int .i64 x5, .int .i64 x6, .int .i64 x7, .int .i64 x8]] W fun e W' =>
      e = .returned (.agg #[.int .i64 (cond g 0 x0), .int .i64 (cond g 0 x1), .int .i64 (cond g 0 x2), .int .i64 (cond g 0 x3), .int .i64 (cond g 0 x4), .int .i64 (cond g 0 x5), .int .i64 (cond g 0 x6), .int .i64 (cond g 0 x7), .int .i64 (cond g 0 x8)]) ∧ Hid (After ⟨b, off, none⟩ (f || g) W W') := by
  have m1 : b < W.heap.size := World.block_lt_of_cell? _ _ hc
  have m2 : o < W.heap.size := World.block_lt_of_cell? _ _ ho
  have HL : Hid _ := Leaves.refl ⟨b, off, none⟩ W
  have n1 : b ≠ W.heap.size := by omega
  have n2 : o ≠ W.heap.size := by omega
  have n3 : W.heap.size ≠ b := by omega
  cases g
  · go_enter Try.func76, Try.ntmps76
    go_wp2
    go_returns
    refine ⟨rfl, ((HL.out.alloc _).alloc _).done ?_ ?_⟩
    · rw [World.cell?_alloc_past _ _ _ (by rw [World.size_alloc]; omega), World.cell?_alloc_past _ _ _ m1, hc]; simp
    · rw [((new_after _ _).frozen (by rw [World.size_alloc]; show b < _; omega)), ((new_after _ _).frozen (show b < _ from m1)), hf]
  · go_enter Try.func76, Try.ntmps76
    go_wp2
    go_returns
    refine ⟨rfl, ((((HL.out.own _).alloc _).alloc _).alloc _).done ?_ ?_⟩
    · have e : (W.setCell ⟨b, off, none⟩ (.bool true)).cell? ⟨b, off, none⟩ = some (.bool true) := by simp [go_sem, hc]
      have s : (W.setCell ⟨b, off, none⟩ (.bool true)).heap.size = W.heap.size := by simp [World.setCell]
      rw [World.cell?_alloc_past _ _ _ (by rw [World.size_alloc, World.size_alloc, s]; omega), World.cell?_alloc_past _ _ _ (by rw [World.size_alloc, s]; omega), World.cell?_alloc_past _ _ _ (by rw [s]; omega), e]; simp
    · have e : (W.setCell ⟨b, off, none⟩ (.bool true)).frozen? ⟨b, off, none⟩ = false := by simp [go_sem, hf]
      have s : (W.setCell ⟨b, off, none⟩ (.bool true)).heap.size = W.heap.size := by simp [World.setCell]
      rw [((new_after _ _).frozen (by rw [World.size_alloc, World.size_alloc, s]; show b < _; omega)), ((new_after _ _).frozen (by rw [World.size_alloc, s]; show b < _; omega)), ((new_after _ _).frozen (by rw [s]; exact m1)), e]

end Go.Proofs.Ytocdompopadanaa
