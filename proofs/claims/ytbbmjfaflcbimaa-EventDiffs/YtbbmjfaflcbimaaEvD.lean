/- Package event: Push. -/
import Derived.Test.YtbbmjfaflcbimaaEvC
namespace Go.Proofs.Ytbbmjfaflcbimaa
open Go.RowKit Go.Shelf
set_option linter.unusedVariables false

set_option maxHeartbeats 1000000 in
theorem qpush_full (qp rb room : Nat) (C L : List Ev) (v : Value) (w : World) (h : Qu w qp rb room C) (hl : LiesE w v L) (hf : room < C.length + L.length) :
    Calls Try.prog 13 #[.pointer (some ⟨qp, 0, none⟩), v] w fun e W => e = .returned (.int .i64 190) ∧ Below w.heap.size w W := by
  obtain ⟨R, f, hq, hR, hr⟩ := h
  obtain ⟨o, cap, rfl, hlm⟩ := hl.len
  have hcc := hq.count
  have hgt : (R.length : Int) - (C.length : Int) < (L.length : Int) := by omega
  go_enter Try.func13, Try.ntmps13
  go_wp2_with (fail)
  refine Calls.mono (qfree_any qp rb R f C.length w hq) ?_
  rintro e W ⟨rfl, hb⟩
  have hd : decide ((L.length : Int) > (R.length : Int) - (C.length : Int)) = true := decide_eq_true hgt
  have HB : Hid _ := hb
  clear hb hq hl hr hf
  go_wp2_with (fail)
  go_ret
  exact ⟨rfl, HB.out⟩
/-- What lay there ahead of two blocks lies in none of them. -/
theorem LiesE.far {w : World} {v : Value} {L : List Ev} {p q : Nat} (h : LiesE w v L) (h1 : w.heap.size ≤ p) (h2 : w.heap.size ≤ q) : L ≠ [] → Far v p q := by
  intro hL g off n c e
  obtain ⟨o, cap, e', _, _, h3⟩ := h.form
  obtain ⟨g', off', e1, c0, _⟩ := h3 0 (by cases L with | nil => exact absurd rfl hL | cons x r => simp)
  rw [e, e1] at e'
  injection e' with e' _ _
  injection e' with e'
  injection e' with e' _
  subst e'
  have : g < w.heap.size := World.block_lt_of_cell? _ _ c0
  omega
/-- What stands when so many are in. -/
def QK (w W : World) (qp rb : Nat) (R : List Ev) (f c : Nat) (L : List Ev) (k : Nat) : Prop := ∃ R' : List Ev, R'.length = R.length ∧ IsQ W qp rb R' f (c + k) ∧ ring R' f (c + k) = ring R f c ++ L.take k ∧ Two2 w W qp rb
set_option maxHeartbeats 1000000 in
set_option maxRecDepth 100000 in
theorem qpush_fits (qp rb room : Nat) (C L : List Ev) (v : Value) (w : World) (h : Qu w qp rb room C) (hl : LiesE w v L) (hfar : L ≠ [] → Far v qp rb) (hf : C.length + L.length ≤ room) :
    Calls Try.prog 13 #[.pointer (some ⟨qp, 0, none⟩), v] w fun e W => e = .returned (.int .i64 0) ∧ Qu W qp rb room (C ++ L) ∧ Two2 w W qp rb := by
  obtain ⟨R, f, hq, hR, hr⟩ := h
  have hroom := hq.room
  have hcc := hq.count
  have hfst := hq.first
  have hgt : ¬ ((R.length : Int) - (C.length : Int) < (L.length : Int)) := by omega
  have HL : Hid _ := hl
  obtain ⟨o, cap, rfl, hlm⟩ := hl.len
  clear hl
  go_enter Try.func13, Try.ntmps13
  go_wp2_with (fail)
  refine Calls.mono (qfree_any qp rb R f C.length w hq) ?_
  rintro e W ⟨rfl, hb⟩
  have hd : decide ((L.length : Int) > (R.length : Int) - (C.length : Int)) = false := decide_eq_false (by omega)
  have HQ0 : Hid (QK w W qp rb R f C.length L 0) := ⟨R, rfl, hq.below hb, by simp, Two2.of_below hb _ _⟩
  have HR : Hid (R.length = room ∧ ring R f C.length = C) := ⟨hR, hr⟩
  have HF : Hid (C.length + L.length ≤ room) := hf
  have HFA : Hid _ := hfar
  have hCL : C.length + L.length ≤ R.length := by omega
  have hq1 := hq.qlt
  have hq2 := hq.rlt
  have hne := hq.ne
  have hne' : qp ≠ rb := Ne.symm hne
  clear hb hq hR hr hf hfar hgt
  go_wp2_with (fail)
  go_loopg [14] L.length (fun gm j wr => ∃ k : Nat, j = .int .i64 (k : Int) ∧ k ≤ L.length ∧ gm = L.length - k ∧ Hid (QK w wr qp rb R f C.length L k))
  case atStart => exact ⟨0, rfl, Nat.zero_le _, rfl, HQ0⟩
  case round =>
    obtain ⟨k, rfl, hk, hgm, HO⟩ := hrel
    have HM : Hid _ := hgm
    clear hgm HQ0
    by_cases hlt : k < L.length
    · obtain ⟨R', hR', hq, hrr, hX⟩ := HO.out
      have HLw := HL.out.two (HFA.out (fun e => by rw [e] at hlt; exact Nat.not_lt_zero _ hlt)) hX
      obtain ⟨o', c', he, _, _, hx⟩ := HLw.form
      injection he with he1 he2 he3
      subst he1; subst he3
      obtain ⟨g, off, rfl, x0, x1, x2⟩ := hx k hlt
      obtain ⟨E, hE⟩ : ∃ E, evAt L k = E := ⟨_, rfl⟩
      rw [hE] at x0 x1 x2
      obtain ⟨ek, ea, eb⟩ := E
      dsimp only at x0 x1 x2
      clear HLw hx
      have HE : Hid _ := hE
      have HQ : Hid _ := hq
      have HRR : Hid _ := hrr
      have HR' : Hid _ := hR'
      have HX : Hid _ := hX
      clear hE hq hrr hR' hX HO
      go_wp2_with (fail)
      obtain ⟨V, hV⟩ : ∃ V, V = wr.alloc (Obj.cells #[Value.int IntKind.i64 ek, Value.int IntKind.i64 ea, Value.int IntKind.i64 eb] 37) := ⟨_, rfl⟩
      have hB : Below wr.heap.size wr V := by rw [hV]; exact (Below.refl _ wr).alloc (Nat.le_refl _) _
      obtain ⟨S0, hS0⟩ : ∃ n, n = wr.heap.size := ⟨_, rfl⟩
      have x0 : V.cell? ⟨S0, 0, none⟩ = some (.int .i64 ek) := by rw [hV, hS0]; simp [go_sem]
      have x1 : V.cell? ⟨S0, 1, none⟩ = some (.int .i64 ea) := by rw [hV, hS0]; simp [go_sem]
      have x2 : V.cell? ⟨S0, 2, none⟩ = some (.int .i64 eb) := by rw [hV, hS0]; simp [go_sem]
      have HQV : Hid _ := HQ.out.below hB
      have HXV : Hid _ := HX.out.then hB
      rw [← hV, ← hS0]
      have HC0 : Hid (∀ W, Below V.heap.size V W → Calls Try.prog 28 #[.pointer (some ⟨qp, 0, none⟩), .int .i64 ((C.length : Int) + (k : Int))] W fun e W2 => e = .returned (.int .i64 (((f + (C.length + k)) % R.length : Nat) : Int)) ∧ Below W.heap.size W W2) := fun W hb => by
        have := qplace_any qp rb R' f (C.length + k) (C.length + k) W (HQV.out.below hb) (by omega)
        rw [HR'.out] at this
        exact_mod_cast this
      obtain ⟨m, hm⟩ : ∃ m, (f + (C.length + k)) % R.length = m := ⟨_, rfl⟩
      have hml : m < R.length := by rw [← hm]; exact Nat.mod_lt _ (by omega)
      have hmi : (m : Int) < (R.length : Int) := by omega
      have HC : Hid (∀ W, Below V.heap.size V W → Calls Try.prog 28 #[.pointer (some ⟨qp, 0, none⟩), .int .i64 ((C.length : Int) + (k : Int))] W fun e W2 => e = .returned (.int .i64 (m : Int)) ∧ Below W.heap.size W W2) := fun W hb => by
        have := HC0.out W hb
        rw [hm] at this
        exact this
      have HM2 : Hid _ := hm
      obtain ⟨cpq, hqc, hqm, z0⟩ := HQV.out.slice
      rw [HR'.out] at z0
      have z2 := HQV.out.c2
      have y0 := HQV.out.k m (by rw [HR'.out]; exact hml)
      have y1 := HQV.out.a m (by rw [HR'.out]; exact hml)
      have y2 := HQV.out.b m (by rw [HR'.out]; exact hml)
      have gz := HQV.out.free
      have hSV : S0 < V.heap.size := World.block_lt_of_cell? _ _ x0
      have hrV : rb < V.heap.size := World.block_lt_of_cell? _ _ y0
      generalize (evAt R' m).k = w0 at *
      generalize (evAt R' m).a = w1 at *
      generalize (evAt R' m).b = w2 at *
      have HS : Hid (wr.heap.size = S0) := hS0.symm
      clear hm HC0 hV hS0 HQ HX hB
      go_cut [] from 18 to 29 (fun wx => ∃ W', Below V.heap.size V W' ∧ wx = (((W'.setCell ⟨rb, m * 3, none⟩ (.int .i64 ek)).setCell ⟨rb, m * 3 + 1, none⟩ (.int .i64 ea)).setCell ⟨rb, m * 3 + 2, none⟩ (.int .i64 eb)))
      case first =>
        go_region_with (go_at_call 28; refine (HC.out _ (by first | exact Below.refl _ _ | exact (Below.refl _ _).drew)).mono ?_; rintro e W' ⟨rfl, hb⟩; have HB' : Hid (Below V.heap.size V W') := (Below.refl _ V).drew.trans hb; have gz := z_froz hb hrV gz; have z0 := z_after hb z0; have x0 := z_after hb x0;  have x1 := z_after hb x1; have x2 := z_after hb x2; have y0 := z_after hb y0; have y1 := z_after hb y1; have y2 := z_after hb y2)
        all_goals
          go_wp2_with (fail)
          go_meet
          case rel => exact ⟨W', HB'.out, rfl⟩
      case rest =>
        obtain ⟨W', hB', hwc⟩ := hcut
        have HQ2 : Hid (IsQ wc qp rb (R'.set m ⟨ek, ea, eb⟩) f (C.length + k)) := by rw [hwc]; exact (HQV.out.below hB').set3 (by rw [HR'.out]; exact hml) ⟨ek, ea, eb⟩
        have HX2 : Hid (Two2 w wc qp rb) := by rw [hwc]; exact (((HXV.out.then hB').store rb (m * 3) (.int .i64 ek) (Or.inr rfl)).store rb (m * 3 + 1) (.int .i64 ea) (Or.inr rfl)).store rb (m * 3 + 2) (.int .i64 eb) (Or.inr rfl)
        have c2 := HQ2.out.c2
        have fq := HQ2.out.fz
        have c2' : wc.cell? ⟨qp, 2, none⟩ = some (.int .i64 ((C.length : Int) + (k : Int))) := by rw [c2]; simp
        clear hwc hB' gz z0 x0 x1 x2 y0 y1 y2 z2 c2 hSV hrV HC HQV HXV
        go_wp2_with (fail)
        go_roundg (L.length - (k + 1))
        case measure => have := HM.out; omega
        case rel =>
          refine ⟨k + 1, by go_num, by omega, rfl, R'.set m ⟨ek, ea, eb⟩, by rw [List.length_set]; exact HR'.out, ?_, ?_, HX2.out.store qp 2 _ (Or.inl rfl)⟩
          · have h9 := HQ2.out.count' (C.length + (k + 1)) (by rw [List.length_set, HR'.out]; omega)
            rw [show ((C.length + (k + 1) : Nat) : Int) = (C.length : Int) + (k : Int) + 1 by omega] at h9
            exact h9
          · have h9 := ring_push R' f (C.length + k) ⟨ek, ea, eb⟩ (by rw [HR'.out]; exact hfst) (by rw [HR'.out]; omega)
            rw [HR'.out, HM2.out] at h9
            rw [show C.length + (k + 1) = C.length + k + 1 by omega, h9, HRR.out, List.append_assoc]
            congr 1
            rw [← HE.out]
            exact take_more hlt
    · have e : k = L.length := by omega
      subst e
      obtain ⟨R', hR', hq, hrr, hX⟩ := HO.out
      have HX : Hid _ := hX
      have HQ : Hid (Qu wr qp rb room (C ++ L)) := ⟨R', f, by rw [List.length_append]; exact hq, by rw [hR', HR.out.1], by rw [List.length_append, hrr, HR.out.2, List.take_length]⟩
      clear hX hrr hq hR' HO
      go_wp2_with (fail)
      go_ret
      exact ⟨rfl, HQ.out, HX.out⟩
end Go.Proofs.Ytbbmjfaflcbimaa
