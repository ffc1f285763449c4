/- Package event: Clone. -/
import Derived.Test.YtbbmjfaflcbimaaEvE
import Derived.Lib.BufferMore
namespace Go.Proofs.Ytbbmjfaflcbimaa
open Go.RowKit Go.Shelf
set_option linter.unusedVariables false

theorem row_mono {w : World} {base base' : Nat} {e : TypeId} {size : Nat} {v : Value} {n : Nat} {xs : List Value} (h : w.ownsRow base e size v n xs) (hb : base' ≤ base) : w.ownsRow base' e size v n xs :=
  ⟨h.1, h.2.imp id fun ⟨g, cap, cur, h1, h2, h3⟩ => ⟨g, cap, cur, h1, Nat.le_trans hb h2, h3⟩⟩
theorem IsQ.lies {W : World} {qp rb : Nat} {R : List Ev} {f c cap : Nat} (h : IsQ W qp rb R f c) (h1 : R.length ≤ cap) (h2 : cap ≤ 9223372036854775807) : LiesE W (.slice (some ⟨rb, 0, none⟩) R.length cap) R :=
  ⟨_, cap, rfl, h1, h2, fun i hi => ⟨rb, 0, rfl, by rw [Nat.zero_add]; exact h.k i hi, by rw [Nat.zero_add]; exact h.a i hi, by rw [Nat.zero_add]; exact h.b i hi⟩⟩
set_option maxRecDepth 100000 in
set_option maxHeartbeats 4000000 in
theorem eclone_any (rb cp : Nat) (L : List Ev) (w : World) (hl : LiesE w (.slice (some ⟨rb, 0, none⟩) L.length cp) L) (hr : L.length ≤ 1024) :
    Calls Try.prog 29 #[.slice (some ⟨rb, 0, none⟩) L.length cp] w fun e W => ∃ v, e = .returned v ∧ W.ownsRow w.heap.size 37 3 v L.length (evs L) ∧ Below w.heap.size w W := by
  obtain ⟨i0, hii, hiz, hisz, hib⟩ := info_parts ev_info
  have HI : Hid _ := And.intro hii (And.intro hiz (And.intro hisz hib))
  clear hii hiz hisz hib
  have hnil : ∀ W, (binOp .eql 31 (.slice (some ⟨rb, 0, none⟩) L.length cp) (.slice none 0 0)).run Try.prog W = .ok (.bool false) W := fun W => Lib.run_eql_slice_some_nil W _ _ _ Try.underlying31
  have HP : Hid _ := hl
  clear hl
  go_enter Try.func29, Try.ntmps29
  have HW : Hid _ := HP.out.below (((Below.refl _ w).alloc (Nat.le_refl _) (.cells #[] 37)))
  have hcl : (evs L).length = L.length * 3 := evs_length L
  have HCL : Hid _ := hcl
  clear hcl
  go_wp2_with (at_builtin; refine wpList_append_own _ rfl _ _ 31 rfl w.heap.size 37 i0 _ 3 24 Try.underlying31 HI.out.1 HI.out.2.1 HI.out.2.2.1 HI.out.2.2.2 rfl (by decide) _ 0 [] rfl (World.ownsRow_lit (e := 37) (size := 3) w #[] 0 (Nat.le_refl _) (by unfold maxLen; omega) rfl) ⟨rb, 0, none⟩ L.length cp (evs L) rfl HCL.out HW.out.cells.2 (evs_one L) (by unfold maxLen; omega) (by omega) (by simp) ?_; intro u9 V2 r8 g8 _)
  go_ret
  rw [Nat.zero_add, List.nil_append] at r8
  exact ⟨_, rfl, r8, ((Below.refl _ w).alloc (Nat.le_refl _) _).grown g8 (by simp) (fun k e => by cases e; exact Nat.le_refl _)⟩
theorem IsQ.new_of {V : World} {g cap : Nat} {R : List Ev} {f c base : Nat} (h : V.ownsRow base 37 3 (.slice (some ⟨g, 0, none⟩) R.length cap) R.length (evs R)) (h0 : R.length ≤ 1024) (h1 : f < R.length) (h2 : c ≤ R.length) (h3 : R.length ≤ cap) (h4 : cap ≤ 9223372036854775807) :
    IsQ (V.alloc (.cells #[.slice (some ⟨g, 0, none⟩) R.length cap, .int .i64 (f : Int), .int .i64 (c : Int)] 67)) V.heap.size g R f c := by
  have hgl : g < V.heap.size := (h.lt g rfl).2
  have hown := World.ownsRow.alloc h (.cells #[.slice (some ⟨g, 0, none⟩) R.length cap, .int .i64 (f : Int), .int .i64 (c : Int)] 67)
  have at3 : ∀ j, j < R.length * 3 → _ := fun j hj => World.ownsRow.cellAt hown j hj
  refine ⟨⟨cap, h3, h4, by simp [go_sem]⟩, by simp [go_sem], by simp [go_sem], fun o => by simp [go_sem], by omega, fun i hi => ?_, fun i hi => ?_, fun i hi => ?_, fun o => World.ownsRow.frozenAt hown o, h0, h1, h2⟩
  · exact (at3 (i * 3) (by omega)).trans (evs_at R i hi).1
  · exact (at3 (i * 3 + 1) (by omega)).trans (evs_at R i hi).2.1
  · exact (at3 (i * 3 + 2) (by omega)).trans (evs_at R i hi).2.2
set_option maxRecDepth 100000 in
set_option maxHeartbeats 2000000 in
theorem qclone_any (qp rb room : Nat) (C : List Ev) (w : World) (h : Qu w qp rb room C) :
    Calls Try.prog 12 #[.pointer (some ⟨qp, 0, none⟩)] w fun e W => ∃ qp' rb', e = .returned (.pointer (some ⟨qp', 0, none⟩)) ∧ w.heap.size ≤ qp' ∧ w.heap.size ≤ rb' ∧ Qu W qp' rb' room C ∧ Below w.heap.size w W := by
  obtain ⟨R, f, hq, hR, hr⟩ := h
  have hroom := hq.room
  have hcc := hq.count
  have hfst := hq.first
  obtain ⟨cp, hc1, hc2, z0⟩ := hq.slice
  have z1 := hq.c1
  have z2 := hq.c2
  have HQ : Hid _ := hq
  have HR : Hid _ := hr
  have HRL : Hid _ := hR
  have HC : Hid (∀ W, Below w.heap.size w W → Calls Try.prog 29 #[.slice (some ⟨rb, 0, none⟩) R.length cp] W fun e V => ∃ g cap, e = .returned (.slice (some ⟨g, 0, none⟩) R.length cap) ∧ (R.length ≤ cap ∧ cap ≤ 9223372036854775807 ∧ w.heap.size ≤ g ∧ V.ownsRow w.heap.size 37 3 (.slice (some ⟨g, 0, none⟩) R.length cap) R.length (evs R)) ∧ Below W.heap.size W V) := fun W hb => by
    refine Calls.mono (eclone_any rb cp R W ((hq.below hb).lies hc1 hc2) hroom) ?_
    rintro e V ⟨v, rfl, hv, hB⟩
    rcases hv.2 with ⟨_, e0⟩ | ⟨g, cap, cur, rfl, hg0, hg, h1, h2, h3, h4⟩
    · omega
    · exact ⟨g, cap, rfl, ⟨h1, by unfold maxLen at h2; omega, Nat.le_trans hb.size hg0, row_mono hv hb.size⟩, hB⟩
  clear hq hr hR
  go_enter Try.func12, Try.ntmps12
  go_wp2_with (fail)
  go_region_with (go_at_call 29; refine (HC.out _ (by first | exact Below.refl _ _ | exact (Below.refl _ _).drew)).mono ?_; rintro e V ⟨g, cap, rfl, hv, hb⟩; have HB' : Hid (Below w.heap.size w V) := (Below.refl _ w).drew.trans hb; have HV : Hid _ := hv; clear hv; have z0 := z_after hb z0; have z1 := z_after hb z1; have z2 := z_after hb z2)
  all_goals
    go_wp2_with (fail)
    go_ret
    obtain ⟨h1, h2, h3, h4⟩ := HV.out
    exact ⟨_, g, rfl, HB'.out.size, h3, ⟨R, f, IsQ.new_of h4 hroom hfst hcc h1 h2, HRL.out, HR.out⟩, HB'.out.alloc HB'.out.size _⟩
end Go.Proofs.Ytbbmjfaflcbimaa
