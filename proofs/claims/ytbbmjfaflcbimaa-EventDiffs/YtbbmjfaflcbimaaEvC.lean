/- Package event: Take. -/
import Derived.Test.YtbbmjfaflcbimaaEvB
namespace Go.Proofs.Ytbbmjfaflcbimaa
open Go.RowKit Go.Shelf
set_option linter.unusedVariables false

set_option maxHeartbeats 1000000 in
theorem qtake_none (qp rb : Nat) (R : List Ev) (f : Nat) (w : World) (h : IsQ w qp rb R f 0) :
    Calls Try.prog 10 #[.pointer (some ⟨qp, 0, none⟩)] w fun e W => e = .returned (.tuple #[Ev.O.v, .bool false]) ∧ Below w.heap.size w W := by
  have e2 := h.c2
  have hq := h.qlt
  clear h
  unfold Ev.v Ev.O
  go_enter Try.func10, Try.ntmps10
  go_wp2_with (fail)
  exact bodyPost_ret (v := .tuple #[.agg #[.int .i64 0, .int .i64 0, .int .i64 0], .bool false]) (by simp [results, Try.results10, go_sem]) rfl ⟨rfl, (Below.refl _ w).alloc (Nat.le_refl _) _⟩
set_option maxHeartbeats 1000000 in
theorem qtake_some (qp rb : Nat) (R : List Ev) (f c : Nat) (w : World) (h : IsQ w qp rb R f (c + 1)) :
    Calls Try.prog 10 #[.pointer (some ⟨qp, 0, none⟩)] w fun e W => e = .returned (.tuple #[(evAt R f).v, .bool true]) ∧ IsQ W qp rb (R.set f Ev.O) ((f + 1) % R.length) c ∧ Two2 w W qp rb := by
  obtain ⟨cap, hl, hc, e0⟩ := h.slice
  have e1 := h.c1
  have e2 := h.c2
  have hq := h.qlt
  have hrl := h.rlt
  have hr := h.room
  have hf := h.first
  have hcc := h.count
  have k0 := h.k f hf
  have k1 := h.a f hf
  have k2 := h.b f hf
  have hne := h.ne
  have hne' : qp ≠ rb := Ne.symm hne
  have fz := h.free
  have fq := h.fz
  have hi : (f : Int) < (R.length : Int) := by omega
  have h00 : (((c : Int) + 1) == 0) = false := by simp; omega
  have HQ : Hid _ := h
  clear h
  obtain ⟨E, hE⟩ : ∃ E, evAt R f = E := ⟨_, rfl⟩
  rw [hE] at k0 k1 k2
  rw [hE]
  clear hE
  obtain ⟨ek, ea, eb⟩ := E
  dsimp only at k0 k1 k2
  unfold Ev.v
  go_enter Try.func10, Try.ntmps10
  go_wp2_with (fail)
  go_region
  go_wp2_with (fail)
  obtain ⟨V, hV⟩ : ∃ V, V = ((w.alloc (Obj.cells #[Value.int IntKind.i64 0, Value.int IntKind.i64 0, Value.int IntKind.i64 0] 37)).alloc (Obj.cells #[Value.int IntKind.i64 ek, Value.int IntKind.i64 ea, Value.int IntKind.i64 eb] 37)).drew := ⟨_, rfl⟩
  have hB : Below w.heap.size w V := by rw [hV]; exact (((Below.refl _ w).alloc (Nat.le_refl _) _).alloc (by simp) _).drew
  obtain ⟨S0, hS0⟩ : ∃ n, n = w.heap.size := ⟨_, rfl⟩
  have hsz : V.heap.size = S0 + 2 := by rw [hV, hS0]; simp
  have r0 : V.cell? ⟨S0, 0, none⟩ = some (.int .i64 0) := by rw [hV, hS0]; simp [go_sem]
  have r1 : V.cell? ⟨S0, 1, none⟩ = some (.int .i64 0) := by rw [hV, hS0]; simp [go_sem]
  have r2 : V.cell? ⟨S0, 2, none⟩ = some (.int .i64 0) := by rw [hV, hS0]; simp [go_sem]
  have x0 : V.cell? ⟨S0 + 1, 0, none⟩ = some (.int .i64 ek) := by rw [hV, hS0]; simp [go_sem]
  have x1 : V.cell? ⟨S0 + 1, 1, none⟩ = some (.int .i64 ea) := by rw [hV, hS0]; simp [go_sem]
  have x2 : V.cell? ⟨S0 + 1, 2, none⟩ = some (.int .i64 eb) := by rw [hV, hS0]; simp [go_sem]
  have fr : ∀ o, V.frozen? ⟨S0, o, none⟩ = false := fun o => by rw [hV, hS0]; simp [go_sem]
  have HQV : Hid _ := HQ.out.below hB
  rw [← hV, ← hS0]
  have n1 : S0 ≠ qp := by omega
  have n2 : S0 ≠ rb := by omega
  have n3 : S0 + 1 ≠ qp := by omega
  have n4 : S0 + 1 ≠ rb := by omega
  have m1 : qp ≠ S0 := by omega
  have m2 : rb ≠ S0 := by omega
  have HX : Hid (Two2 w V qp rb) := Two2.of_below hB _ _
  have HS : Hid (w.heap.size = S0) := hS0.symm
  have z0 := z_after hB e0
  have z1 := z_after hB e1
  have z2 := z_after hB e2
  have y0 := z_after hB k0
  have y1 := z_after hB k1
  have y2 := z_after hB k2
  have gz := HQV.out.free
  have gq := HQV.out.fz
  clear hV hS0 e0 e1 e2 k0 k1 k2 fz fq HQ hB
  go_region
  go_wp2_with (fail)
  obtain ⟨U, hU⟩ : ∃ U, U = (((V.setCell ⟨rb, f * 3, none⟩ (.int .i64 0)).setCell ⟨rb, f * 3 + 1, none⟩ (.int .i64 0)).setCell ⟨rb, f * 3 + 2, none⟩ (.int .i64 0)).drew := ⟨_, rfl⟩
  have HQU : Hid (IsQ U qp rb (R.set f Ev.O) f (c + 1)) := by rw [hU]; exact (HQV.out.set3 hf Ev.O).below (Below.refl _ _).drew
  have HXU : Hid (Two2 w U qp rb) := by rw [hU]; exact (((HX.out.store rb (f * 3) (.int .i64 0) (Or.inr rfl)).store rb (f * 3 + 1) (.int .i64 0) (Or.inr rfl)).store rb (f * 3 + 2) (.int .i64 0) (Or.inr rfl)).then (Below.refl _ _).drew
  have hVU : Two2 V U qp rb := by rw [hU]; exact ((((Two2.refl V qp rb).store rb (f * 3) (.int .i64 0) (Or.inr rfl)).store rb (f * 3 + 1) (.int .i64 0) (Or.inr rfl)).store rb (f * 3 + 2) (.int .i64 0) (Or.inr rfl)).then (Below.refl _ _).drew
  rw [← hU]
  have r0 := hVU.cell r0 n1 n2
  have r1 := hVU.cell r1 n1 n2
  have r2 := hVU.cell r2 n1 n2
  have x0 := hVU.cell x0 n3 n4
  have x1 := hVU.cell x1 n3 n4
  have x2 := hVU.cell x2 n3 n4
  have hS0 : S0 < V.heap.size := by omega
  have fr : ∀ o, U.frozen? ⟨S0, o, none⟩ = false := fun o => by rw [hVU.froz hS0 n1 n2]; exact fr o
  have hSU : S0 < U.heap.size := Nat.lt_of_lt_of_le hS0 hVU.size
  have hrl' : (R.set f Ev.O).length = R.length := List.length_set
  clear hU hVU HQV HX y0 y1 y2 z0 z1 z2 gz gq
  refine Calls.mono (qplace_any qp rb (R.set f Ev.O) f (c + 1) 1 U HQU.out (by omega)) ?_
  rintro e T ⟨rfl, hb⟩
  rw [hrl']
  obtain ⟨m, hm⟩ : ∃ m, (f + 1) % R.length = m := ⟨_, rfl⟩
  have hml : m < R.length := by rw [← hm]; exact Nat.mod_lt _ (by omega)
  rw [hm]
  have HM : Hid _ := hm
  clear hm
  have HQ := HQU.out.below hb
  have q1 := HQ.c1
  have q2 := HQ.c2
  have gq := HQ.fz
  have HX : Hid _ := HXU.out.then hb
  have r0 := z_after hb r0
  have r1 := z_after hb r1
  have r2 := z_after hb r2
  have x0 := z_after hb x0
  have x1 := z_after hb x1
  have x2 := z_after hb x2
  have fr : ∀ o, T.frozen? ⟨S0, o, none⟩ = false := fun o => by rw [hb.frozen (p := ⟨S0, o, none⟩) hSU]; exact fr o
  have HQ : Hid _ := HQ
  clear hb HQU HXU hrl'
  go_wp2_with (fail)
  have hl3 : (R.set f Ev.O).length = R.length := List.length_set
  refine bodyPost_ret (v := .tuple #[.agg #[.int .i64 ek, .int .i64 ea, .int .i64 eb], .bool true]) (by simp [results, Try.results10, go_sem, r0, r1, r2]) rfl ⟨rfl, ?_, ?_⟩
  · rw [HM.out]
    exact ((((HQ.out.first' m (by omega)).count' c (by omega)).far (a := ⟨S0, 0, none⟩) _ m1 m2).far (a := ⟨S0, 1, none⟩) _ m1 m2).far (a := ⟨S0, 2, none⟩) _ m1 m2
  · have h1 := (HX.out.store qp 1 (.int .i64 (m : Int)) (Or.inl rfl)).store qp 2 (.int .i64 (c : Int)) (Or.inl rfl)
    have hS := HS.out
    exact ((h1.new ⟨S0, 0, none⟩ _ (by simp; omega)).new ⟨S0, 1, none⟩ _ (by simp; omega)).new ⟨S0, 2, none⟩ _ (by simp; omega)
end Go.Proofs.Ytbbmjfaflcbimaa
