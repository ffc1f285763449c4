/- Package event: New, Free, place, Take. -/
import Derived.Test.YtbbmjfaflcbimaaEvA
namespace Go.Proofs.Ytbbmjfaflcbimaa
open Go.RowKit Go.Shelf
set_option linter.unusedVariables false

theorem new19_no (room : Int) (w : World) (h : room < 1 ∨ 1024 < room) :
    Calls Try.prog 7 #[.int .i64 room] w fun e w' => e = .returned (.tuple #[.pointer none, .int .i64 1]) ∧ w' = w := by
  rcases h with h | h
  · go_enter Try.func7, Try.ntmps7
    go_wp2
    go_ret2
    exact ⟨rfl, rfl⟩
  · have h' : ¬ room < 1 := by omega
    go_enter Try.func7, Try.ntmps7
    go_wp2
    go_ret2
    exact ⟨rfl, rfl⟩
theorem made19_at (n j : Nat) (h : j < n * 3) : (madeCells (Value.agg #[.int .i64 0, .int .i64 0, .int .i64 0]).cells (n * 3))[j]? = some (.int .i64 0) := by
  have h3 : j % 3 = 0 ∨ j % 3 = 1 ∨ j % 3 = 2 := by omega
  have hc : (Value.agg #[.int .i64 0, .int .i64 0, .int .i64 0]).cells = #[.int .i64 0, .int .i64 0, .int .i64 0] := rfl
  rw [hc]
  rcases h3 with e | e | e <;> simp [madeCells, h, e]
theorem new_ring (room : Nat) (w : World) (h0 : 0 < room) (h2 : room ≤ 1024) : IsQ ((w.alloc (.cells (madeCells (Value.agg #[.int .i64 0, .int .i64 0, .int .i64 0]).cells (room * 3)) 37)).alloc (.cells #[.slice (some ⟨w.heap.size, 0, none⟩) room room, .int .i64 0, .int .i64 0] 67)) (w.heap.size + 1) w.heap.size (List.replicate room Ev.O) 0 0 := by
  have cell : ∀ j, j < room * 3 → ((w.alloc (.cells (madeCells (Value.agg #[.int .i64 0, .int .i64 0, .int .i64 0]).cells (room * 3)) 37)).alloc (.cells #[.slice (some ⟨w.heap.size, 0, none⟩) room room, .int .i64 0, .int .i64 0] 67)).cell? ⟨w.heap.size, j, none⟩ = some (.int .i64 0) := fun j hj => by
    rw [World.cell?_alloc_past _ _ _ (by simp), World.cell?_alloc_at _ _ _ _ rfl]
    exact made19_at room j hj
  have get : ∀ i, i < room → evAt (List.replicate room Ev.O) i = Ev.O := fun i hi => by unfold evAt; simp [hi]
  refine ⟨?_, by simp [go_sem], by simp [go_sem], fun o => by simp [go_sem], by omega, ?_, ?_, ?_, fun o => by simp [go_sem], by simpa using h2, by simpa using h0, by simp⟩
  · exact ⟨room, by simp, by omega, by simp [go_sem]⟩
  · intro i hi
    rw [List.length_replicate] at hi
    rw [get i hi, cell _ (by omega)]; rfl
  · intro i hi
    rw [List.length_replicate] at hi
    rw [get i hi, cell _ (by omega)]; rfl
  · intro i hi
    rw [List.length_replicate] at hi
    rw [get i hi, cell _ (by omega)]; rfl
set_option maxHeartbeats 1000000 in
theorem new19_yes (room : Nat) (w : World) (h1 : 1 ≤ room) (h2 : room ≤ 1024) :
    Calls Try.prog 7 #[.int .i64 (room : Int)] w fun e W => ∃ qp rb, e = .returned (.tuple #[.pointer (some ⟨qp, 0, none⟩), .int .i64 0]) ∧ w.heap.size ≤ qp ∧ w.heap.size ≤ rb ∧ Qu W qp rb room [] ∧ Below w.heap.size w W := by
  have h3 : ¬ (room : Int) < 1 := by omega
  have h4 : ¬ 1024 < (room : Int) := by omega
  have h5 : (room : Int) ≤ 1024 := by omega
  obtain ⟨i0, hi, hz, hs, hb⟩ := info_parts ev_info
  have hmk := run_make (P := Try.prog) w 31 37 i0 _ Try.underlying31 hi hz .i64 .i64 room room (by omega) (Int.le_refl _) (by rw [hb]; omega) (by omega)
  rw [Int.toNat_natCast, hs] at hmk
  obtain ⟨C, hC⟩ : ∃ C, C = madeCells (Value.agg #[.int .i64 0, .int .i64 0, .int .i64 0]).cells (room * 3) := ⟨_, rfl⟩
  rw [← hC] at hmk
  have HC : Hid _ := hC
  clear hC hi hz hs hb
  go_enter Try.func7, Try.ntmps7
  go_wp2
  go_ret2
  have hp := new_ring room w h1 h2
  rw [← HC.out] at hp
  refine ⟨_, rfl, Nat.le_succ _, w.heap.size, Nat.le_refl _, ⟨_, 0, hp, by rw [List.length_replicate], rfl⟩, ((Below.refl _ w).alloc (Nat.le_refl _) _).alloc (by simp) _⟩

set_option maxHeartbeats 1000000 in
theorem qfree_any (qp rb : Nat) (R : List Ev) (f c : Nat) (w : World) (h : IsQ w qp rb R f c) :
    Calls Try.prog 16 #[.pointer (some ⟨qp, 0, none⟩)] w fun e W => e = .returned (.int .i64 ((R.length : Int) - (c : Int))) ∧ Below w.heap.size w W := by
  obtain ⟨cap, hl, hc, e0⟩ := h.slice
  have e2 := h.c2
  have hr := h.room
  have hcc := h.count
  clear h
  go_enter Try.func16, Try.ntmps16
  go_wp2
  go_region
  go_wp2_with (fail)
  go_ret
  exact ⟨rfl, (Below.refl _ w).drew⟩
set_option maxHeartbeats 1000000 in
theorem qplace_any (qp rb : Nat) (R : List Ev) (f c : Nat) (i : Nat) (w : World) (h : IsQ w qp rb R f c) (hi : i ≤ 1024) :
    Calls Try.prog 28 #[.pointer (some ⟨qp, 0, none⟩), .int .i64 (i : Int)] w fun e W => e = .returned (.int .i64 (((f + i) % R.length : Nat) : Int)) ∧ Below w.heap.size w W := by
  obtain ⟨cap, hl, hc, e0⟩ := h.slice
  have e1 := h.c1
  have hr := h.room
  have hf := h.first
  have h0 : ¬ ((R.length : Int) = 0) := by omega
  clear h
  go_enter Try.func28, Try.ntmps28
  go_wp2
  go_region
  go_wp2_with (fail)
  go_ret
  exact ⟨rfl, (Below.refl _ w).drew⟩
end Go.Proofs.Ytbbmjfaflcbimaa
