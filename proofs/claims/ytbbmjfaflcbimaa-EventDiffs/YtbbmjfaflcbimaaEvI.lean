/- Layer 19: the document's own Take and All. -/
import Derived.Test.YtbbmjfaflcbimaaEvH
namespace Go.Proofs.Ytbbmjfaflcbimaa
open Go.RowKit Go.Shelf
set_option linter.unusedVariables false

set_option maxHeartbeats 1000000 in
theorem rtake_none (rp base room : Nat) (v : Value) (w : World) (h : IsR w rp base v room []) :
    Calls Try.prog 11 #[.pointer (some ⟨rp, 0, none⟩)] w fun e W => e = .returned (.tuple #[Ev.O.v, .bool false]) ∧ Below w.heap.size w W := by
  obtain ⟨o, cap, rfl, hcl, _⟩ := h.own.len
  have e0 := h.c0
  have hl := h.lt
  clear h
  unfold Ev.v Ev.O
  rw [List.length_nil] at e0
  go_enter Try.func11, Try.ntmps11
  go_wp2_with (fail)
  exact bodyPost_ret (v := .tuple #[.agg #[.int .i64 0, .int .i64 0, .int .i64 0], .bool false]) (by simp [results, Try.results11, go_sem]) rfl ⟨rfl, (Below.refl _ w).alloc (Nat.le_refl _) _⟩
set_option maxHeartbeats 1000000 in
theorem rall19_any (rp base room : Nat) (v : Value) (C : List Ev) (w : World) (h : IsR w rp base v room C) :
    Calls Try.prog 19 #[.pointer (some ⟨rp, 0, none⟩)] w fun e W => ∃ u, e = .returned u ∧ OA W w.heap.size u C ∧ Below w.heap.size w W := by
  have HR : Hid _ := h
  obtain ⟨o, cap, rfl, hcl, _⟩ := h.own.len
  have e0 := h.c0
  have hr := h.room_
  have hcc := h.count
  clear h
  go_enter Try.func19, Try.ntmps19
  go_wp2_with (at_builtin; refine eapp rfl _ _ rfl w.heap.size _ [] rfl (OA.nil w w.heap.size) _ C rfl HR.out.own.lies (by simp; omega) (Nat.le_refl _) ?_; intro u8 V8 r8 g8 s8; obtain ⟨a8, c8, rfl, _, _⟩ := r8.len)
  go_ret
  exact ⟨_, rfl, r8, ⟨g8.os, g8.tape, g8.output, g8.size, fun k hk => g8.block k hk (by simp [Value.ownBlock, Act.eval])⟩⟩
theorem IsR.far {W : World} {rp base : Nat} {v : Value} {room : Nat} {C : List Ev} (h : IsR W rp base v room C) (a : Addr) (u : Value) (h1 : rp ≠ a.block) (h2 : ∀ k, v.ownBlock = some k → k ≠ a.block) : IsR (W.setCell a u) rp base v room C :=
  h.keep (by simp [World.setCell]) (Below.heap_setCell _ _ _ _ h1) (fun k e => Below.heap_setCell _ _ _ _ (h2 k e))
theorem take_end {w V V8 : World} {rp base room S0 : Nat} {v u : Value} {x : Ev} {C : List Ev} {z0 z1 z2 : Value} (hR : IsR V rp base v room (x :: C)) (hB : Below w.heap.size w V) (B8 : Below V.heap.size V V8) (r8 : OA V8 V.heap.size u C) (hS : w.heap.size = S0) (hSV : S0 < V.heap.size) (n1 : S0 ≠ rp) (hb : base ≤ w.heap.size) :
    IsR ((((V8.setCell ⟨rp, 0, none⟩ u).setCell ⟨S0, 0, none⟩ z0).setCell ⟨S0, 1, none⟩ z1).setCell ⟨S0, 2, none⟩ z2) rp base u room C ∧ (∀ k, u.ownBlock = some k → w.heap.size ≤ k) ∧ RT w ((((V8.setCell ⟨rp, 0, none⟩ u).setCell ⟨S0, 0, none⟩ z0).setCell ⟨S0, 1, none⟩ z1).setCell ⟨S0, 2, none⟩ z2) rp v := by
  have h8 := hR.below B8
  have hcc := hR.count
  rw [List.length_cons] at hcc
  have hk : ∀ k, u.ownBlock = some k → V.heap.size ≤ k := fun k e => (r8.lt k e).1
  have hVw := hB.size
  have hrV := hR.lt
  have h9 : IsR (V8.setCell ⟨rp, 0, none⟩ u) rp base u room C := by
    refine ⟨World.cell?_setCell_same _ _ _ h8.c0, ?_, fun o => ?_, (r8.mono (by omega)).keep (by simp [World.setCell]) (fun k e => Below.heap_setCell _ _ _ _ (by have := hk k e; simp; omega)), fun e => by have := hk _ e; omega, hR.room_, by omega⟩
    · rw [World.cell?_setCell_other _ _ _ _ (by simp)]; exact h8.c1
    · rw [World.frozen?_setCell]; exact h8.fz o
  refine ⟨((h9.far ⟨S0, 0, none⟩ z0 (Ne.symm n1) (fun k e => by have := hk k e; simp; omega)).far ⟨S0, 1, none⟩ z1 (Ne.symm n1) (fun k e => by have := hk k e; simp; omega)).far ⟨S0, 2, none⟩ z2 (Ne.symm n1) (fun k e => by have := hk k e; simp; omega), fun k e => by have := hk k e; omega, ?_⟩
  have hb8 := z_step hB B8
  refine ⟨hb8.os, hb8.tape, hb8.output, by simpa [World.setCell] using hb8.size, fun k hk hkr hkv => ?_⟩
  rw [Below.heap_setCell _ _ _ _ (by simp; omega), Below.heap_setCell _ _ _ _ (by simp; omega), Below.heap_setCell _ _ _ _ (by simp; omega), Below.heap_setCell _ _ _ _ (by simpa using hkr)]
  exact hb8.block k hk
set_option maxHeartbeats 1000000 in
theorem rtake_some (rp base room : Nat) (v : Value) (x : Ev) (C : List Ev) (w : World) (h : IsR w rp base v room (x :: C)) (hb : base ≤ w.heap.size) :
    Calls Try.prog 11 #[.pointer (some ⟨rp, 0, none⟩)] w fun e W => ∃ v', e = .returned (.tuple #[x.v, .bool true]) ∧ IsR W rp base v' room C ∧ (∀ k, v'.ownBlock = some k → w.heap.size ≤ k) ∧ RT w W rp v := by
  have HR : Hid _ := h
  obtain ⟨g, off, cap, rfl⟩ : ∃ g off cap, v = .slice (some ⟨g, off, none⟩) (C.length + 1) cap := by
    rcases h.own.form with ⟨_, e⟩ | ⟨g, off, cap, e, _⟩
    · cases e
    · exact ⟨g, off, cap, e⟩
  obtain ⟨_, hcap, ht1, ht0⟩ := h.own.tail
  obtain ⟨x0, x1, x2⟩ : w.cell? ⟨g, off, none⟩ = some (.int .i64 x.k) ∧ w.cell? ⟨g, off + 1, none⟩ = some (.int .i64 x.a) ∧ w.cell? ⟨g, off + 2, none⟩ = some (.int .i64 x.b) := by
    have hc := h.own.lies.cells.2
    have h0 := hc 0 _ rfl
    have h1 := hc 1 _ rfl
    have h2 := hc 2 _ rfl
    rw [z_add] at h0 h1 h2
    exact ⟨h0, h1, h2⟩
  have hgl : g < w.heap.size := World.block_lt_of_cell? _ _ x0
  obtain ⟨ek, ea, eb⟩ := x
  dsimp only at x0 x1 x2
  unfold Ev.v
  have e0 := h.c0
  have e1 := h.c1
  have fz := h.fz
  have hr := h.room_
  have hcc := h.count
  rw [List.length_cons] at hcc
  have hrl := h.lt
  have hz : ((C.length : Int) + 1 == 0) = false := beq_eq_false_iff_ne.2 (by omega)
  have hpos : (0 : Int) < (C.length : Int) + 1 := by omega
  have hml : cap ≤ maxLen := by
    rcases h.own.form with ⟨_, e⟩ | ⟨g', off', cap', e, _, _, _, h4, _⟩
    · cases e
    · injection e with _ _ e; subst e; exact h4
  unfold maxLen at hml
  clear h
  have HT1 : Hid _ := ht1
  have HT0 : Hid _ := ht0
  clear ht1 ht0
  obtain ⟨S0, hS0⟩ : ∃ n, n = w.heap.size := ⟨_, rfl⟩
  by_cases hc1 : cap = 1
  · subst hc1
    have hC0 : C.length = 0 := by omega
    have HTT : Hid (OA w base (.slice (some ⟨g, off, none⟩) C.length 0) C) := HT0.out rfl
    clear HT0 HT1
    obtain rfl : C = [] := List.eq_nil_of_length_eq_zero hC0
    go_enter Try.func11, Try.ntmps11
    go_upto_region 5 with fail
    obtain ⟨V, hV⟩ : ∃ V, V = ((w.alloc (Obj.cells #[Value.int IntKind.i64 0, Value.int IntKind.i64 0, Value.int IntKind.i64 0] 37)).alloc (Obj.cells #[Value.int IntKind.i64 ek, Value.int IntKind.i64 ea, Value.int IntKind.i64 eb] 37)) := ⟨_, rfl⟩
    have hB : Below w.heap.size w V := by rw [hV]; exact (((Below.refl _ w).alloc (Nat.le_refl _) _).alloc (by simp) _)
    have hsz : V.heap.size = S0 + 2 := by rw [hV, hS0]; simp
    have r0 : V.cell? ⟨S0, 0, none⟩ = some (.int .i64 0) := by rw [hV, hS0]; simp [go_sem]
    have r1 : V.cell? ⟨S0, 1, none⟩ = some (.int .i64 0) := by rw [hV, hS0]; simp [go_sem]
    have r2 : V.cell? ⟨S0, 2, none⟩ = some (.int .i64 0) := by rw [hV, hS0]; simp [go_sem]
    have y0 : V.cell? ⟨S0 + 1, 0, none⟩ = some (.int .i64 ek) := by rw [hV, hS0]; simp [go_sem]
    have y1 : V.cell? ⟨S0 + 1, 1, none⟩ = some (.int .i64 ea) := by rw [hV, hS0]; simp [go_sem]
    have y2 : V.cell? ⟨S0 + 1, 2, none⟩ = some (.int .i64 eb) := by rw [hV, hS0]; simp [go_sem]
    have fr : ∀ o, V.frozen? ⟨S0, o, none⟩ = false := fun o => by rw [hV, hS0]; simp [go_sem]
    have HRV : Hid _ := HR.out.below hB
    have HBV : Hid _ := hB
    have HTV : Hid _ := (HTT.out.below hB).lies
    rw [← hV, ← hS0]
    have z0 := HRV.out.c0
    have n1 : S0 ≠ rp := by omega
    have n2 : S0 + 1 ≠ rp := by omega
    have n3 : rp ≠ S0 := by omega
    have hSV : S0 < V.heap.size := by omega
    have fzV := HRV.out.fz
    have hrV : rp < V.heap.size := HRV.out.lt
    have HS : Hid (w.heap.size = S0) := hS0.symm
    clear hV hS0 hB x0 x1 x2 e0 e1 fz
    go_wp2_with (fail)
    obtain ⟨f1, f2, f3⟩ := take_end (z0 := .int .i64 ek) (z1 := .int .i64 ea) (z2 := .int .i64 eb) HRV.out HBV.out (Below.refl _ _) (OA.nil V _) HS.out hSV n1 hb
    exact bodyPost_ret (v := .tuple #[.agg #[.int .i64 ek, .int .i64 ea, .int .i64 eb], .bool true]) (by simp [results, Try.results11, go_sem, r0, r1, r2]) rfl ⟨rfl, _, f1, f2, f3⟩
  · obtain ⟨cp, rfl⟩ : ∃ cp, cap = cp + 1 := ⟨cap - 1, by omega⟩
    have HTT : Hid (OA w base (.slice (some ⟨g, off + 3, none⟩) C.length cp) C) := HT1.out
    clear HT0 HT1
    have hcp : 0 < cp := by omega
    go_enter Try.func11, Try.ntmps11
    go_upto_region 5 with fail
    obtain ⟨V, hV⟩ : ∃ V, V = ((w.alloc (Obj.cells #[Value.int IntKind.i64 0, Value.int IntKind.i64 0, Value.int IntKind.i64 0] 37)).alloc (Obj.cells #[Value.int IntKind.i64 ek, Value.int IntKind.i64 ea, Value.int IntKind.i64 eb] 37)) := ⟨_, rfl⟩
    have hB : Below w.heap.size w V := by rw [hV]; exact (((Below.refl _ w).alloc (Nat.le_refl _) _).alloc (by simp) _)
    have hsz : V.heap.size = S0 + 2 := by rw [hV, hS0]; simp
    have r0 : V.cell? ⟨S0, 0, none⟩ = some (.int .i64 0) := by rw [hV, hS0]; simp [go_sem]
    have r1 : V.cell? ⟨S0, 1, none⟩ = some (.int .i64 0) := by rw [hV, hS0]; simp [go_sem]
    have r2 : V.cell? ⟨S0, 2, none⟩ = some (.int .i64 0) := by rw [hV, hS0]; simp [go_sem]
    have y0 : V.cell? ⟨S0 + 1, 0, none⟩ = some (.int .i64 ek) := by rw [hV, hS0]; simp [go_sem]
    have y1 : V.cell? ⟨S0 + 1, 1, none⟩ = some (.int .i64 ea) := by rw [hV, hS0]; simp [go_sem]
    have y2 : V.cell? ⟨S0 + 1, 2, none⟩ = some (.int .i64 eb) := by rw [hV, hS0]; simp [go_sem]
    have fr : ∀ o, V.frozen? ⟨S0, o, none⟩ = false := fun o => by rw [hV, hS0]; simp [go_sem]
    have HRV : Hid _ := HR.out.below hB
    have HBV : Hid _ := hB
    have HTV : Hid _ := (HTT.out.below hB).lies
    rw [← hV, ← hS0]
    have z0 := HRV.out.c0
    have n1 : S0 ≠ rp := by omega
    have n2 : S0 + 1 ≠ rp := by omega
    have n3 : rp ≠ S0 := by omega
    have hSV : S0 < V.heap.size := by omega
    have fzV := HRV.out.fz
    have hrV : rp < V.heap.size := HRV.out.lt
    have HS : Hid (w.heap.size = S0) := hS0.symm
    clear hV hS0 hB x0 x1 x2 e0 e1 fz
    go_wp2_with (at_builtin; refine eapp rfl _ _ rfl V.heap.size _ [] rfl (OA.nil V V.heap.size) _ C rfl HTV.out (by simp; omega) (Nat.le_refl _) ?_; intro u8 V8 r8 g8 s8; obtain ⟨a8, c8, rfl, _, _⟩ := r8.len; rw [List.nil_append] at r8 s8; have B8 : Hid (Below V.heap.size V V8) := ⟨g8.os, g8.tape, g8.output, g8.size, fun k hk => g8.block k hk (by simp [Value.ownBlock, Act.eval])⟩; have r0 := z_after B8.out r0; have r1 := z_after B8.out r1; have r2 := z_after B8.out r2; have y0 := z_after B8.out y0; have y1 := z_after B8.out y1; have y2 := z_after B8.out y2; have fr := z_froz B8.out hSV fr; have z0 := z_after B8.out z0; have fzV := z_froz B8.out hrV fzV; have R8 : Hid _ := r8; have S8 : Hid _ := s8; clear r8 s8 g8)
    obtain ⟨f1, f2, f3⟩ := take_end (z0 := .int .i64 ek) (z1 := .int .i64 ea) (z2 := .int .i64 eb) HRV.out HBV.out B8.out R8.out HS.out hSV n1 hb
    exact bodyPost_ret (v := .tuple #[.agg #[.int .i64 ek, .int .i64 ea, .int .i64 eb], .bool true]) (by simp [results, Try.results11, go_sem, r0, r1, r2]) rfl ⟨rfl, _, f1, f2, f3⟩
end Go.Proofs.Ytbbmjfaflcbimaa
