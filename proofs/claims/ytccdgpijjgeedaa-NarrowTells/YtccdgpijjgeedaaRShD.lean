/- The document's own test of shapes: form, Check. -/
import Derived.Test.YtccdgpijjgeedaaRShC
namespace Go.Proofs.Ytccdgpijjgeedaa
open Go.RowKit Go.Shelf
set_option linter.unusedVariables false

set_option maxHeartbeats 2000000 in
set_option maxRecDepth 100000 in
theorem rform_any (s : Sh) (pv : Value) (w : World) (hv : Lies w pv s.pts) :
    Calls Try.prog 81 #[s.v pv] w fun e W => e = .returned (.bool (formP s)) ∧ Below w.heap.size w W := by
  obtain ⟨k, r, ⟨hx, hy, hz⟩, L⟩ := s
  have HF : Hid (formP ⟨k, r, ⟨hx, hy, hz⟩, L⟩ = if k = 1 then inR r 1 16384 else if k = 2 then inR r 1 16384 && halfOk hx else if k = 3 then inR r 0 16384 && (halfOk hx && (halfOk hy && halfOk hz)) else if k = 4 then inR r 0 16384 && mayP L else false) := rfl
  generalize formP ⟨k, r, ⟨hx, hy, hz⟩, L⟩ = F at *
  have HV : Hid _ := hv
  have hB : Hid (Below w.heap.size w (w.alloc (.cells #[.int .i64 k, .int .i64 r, .int .i64 hx, .int .i64 hy, .int .i64 hz, pv] 68))) := n_after w _
  have B1 : Hid (Cells (w.alloc (.cells #[.int .i64 k, .int .i64 r, .int .i64 hx, .int .i64 hy, .int .i64 hz, pv] 68)) w.heap.size [.int .i64 k, .int .i64 r, .int .i64 hx, .int .i64 hy, .int .i64 hz, pv]) := Cells.new w [.int .i64 k, .int .i64 r, .int .i64 hx, .int .i64 hy, .int .i64 hz, pv] _
  obtain ⟨o, c, rfl, hlc, hcm, _⟩ := hv.form
  dsimp only at hlc hcm hB HV ⊢
  clear hv
  unfold Sh.v
  dsimp only
  by_cases k1 : k = 1
  · subst k1
    have e : F = inR r 1 16384 := HF.out
    subst e
    generalize hb : inR r 1 16384 = t
    go_enter Try.func81, Try.ntmps81
    go_wp2_with (fail)
    refine Calls.mono (rin_is r 1 16384 _ t hb) ?_
    rintro e w' ⟨rfl, rfl⟩
    go_wp2_with (fail)
    go_ret
    exact ⟨rfl, hB.out⟩
  by_cases k2 : k = 2
  · subst k2
    have e : F = (inR r 1 16384 && halfOk hx) := HF.out
    cases hb : inR r 1 16384 with
    | false =>
      rw [hb] at e
      subst e
      go_enter Try.func81, Try.ntmps81
      go_wp2_with (fail)
      refine Calls.mono (rin_is r 1 16384 _ false hb) ?_
      rintro e w' ⟨rfl, rfl⟩
      go_wp2_with (fail)
      go_ret
      exact ⟨rfl, hB.out⟩
    | true =>
      rw [hb] at e
      have e2 : F = inR hx 1 65536 := e
      clear e
      subst e2
      generalize hh : inR hx 1 65536 = t
      go_enter Try.func81, Try.ntmps81
      go_wp2_with (fail)
      refine Calls.mono (rin_is r 1 16384 _ true hb) ?_
      rintro e w' ⟨rfl, rfl⟩
      go_wp2_with (fail)
      refine Calls.mono (rin_is hx 1 65536 _ t hh) ?_
      rintro e w' ⟨rfl, rfl⟩
      go_wp2_with (fail)
      go_ret
      exact ⟨rfl, hB.out⟩
  by_cases k3 : k = 3
  · subst k3
    have e : F = (inR r 0 16384 && inP ⟨hx, hy, hz⟩ 1 65536) := HF.out
    have HW : Hid _ := fun w' => rwithin_any ⟨hx, hy, hz⟩ 1 65536 w'
    generalize inP ⟨hx, hy, hz⟩ 1 65536 = u at *
    unfold Pt.v at HW
    dsimp only at HW
    subst e
    generalize hb : inR r 0 16384 = t
    have c2 := (B1.out 2 _ rfl).1
    have c3 := (B1.out 3 _ rfl).1
    have c4 := (B1.out 4 _ rfl).1
    go_enter Try.func81, Try.ntmps81
    go_wp2_with (fail)
    refine Calls.mono (HW.out _) ?_
    rintro e V ⟨rfl, hb2⟩
    have c1 := (Cells.step B1.out hb2 1 _ rfl).1
    have hB2 : Hid _ := b_step hB.out hb2
    clear hb2 c2 c3 c4
    cases t with
    | false =>
      go_wp2_with (fail)
      refine Calls.mono (rin_is r 0 16384 _ false hb) ?_
      rintro e w' ⟨rfl, rfl⟩
      go_wp2_with (fail)
      go_ret
      exact ⟨rfl, hB2.out⟩
    | true =>
      go_wp2_with (fail)
      refine Calls.mono (rin_is r 0 16384 _ true hb) ?_
      rintro e w' ⟨rfl, rfl⟩
      go_wp2_with (fail)
      go_ret
      exact ⟨rfl, hB2.out⟩
  by_cases k4 : k = 4
  · subst k4
    have e : F = (inR r 0 16384 && mayP L) := HF.out
    rw [e]
    exact rform_hull r ⟨hx, hy, hz⟩ _ L w HV.out
  · have e : F = false := by rw [HF.out, if_neg k1, if_neg k2, if_neg k3, if_neg k4]
    subst e
    go_enter Try.func81, Try.ntmps81
    go_wp2
    go_ret
    exact ⟨rfl, hB.out⟩
set_option maxHeartbeats 1000000 in
set_option maxRecDepth 100000 in
theorem rcheck_any (s : Sh) (pv : Value) (w : World) (hv : Lies w pv s.pts) :
    Calls Try.prog 57 #[s.v pv] w fun e W => e = .returned (.int .i64 (checkP s)) ∧ Below w.heap.size w W := by
  have hB : Hid (Below w.heap.size w (w.alloc (.cells #[.int .i64 s.kind, .int .i64 s.radius, .int .i64 s.half.x, .int .i64 s.half.y, .int .i64 s.half.z, pv] 68))) := n_after w _
  have HF : Hid _ := rform_any s pv (w.alloc (.cells #[.int .i64 s.kind, .int .i64 s.radius, .int .i64 s.half.x, .int .i64 s.half.y, .int .i64 s.half.z, pv] 68)) (hv.below hB.out)
  have HC : Hid (checkP s = if formP s then (if s.kind = 4 ∧ flatP s.pts = true then 51 else 0) else 50) := rfl
  have HM : Hid (formP s = true → s.kind = 4 → mayP s.pts = true) := fun a b => form_hull a b
  generalize checkP s = C at *
  have HV : Hid _ := hv
  obtain ⟨o, c, rfl, hlc, hcm, _⟩ := hv.form
  clear hv
  generalize formP s = F at *
  obtain ⟨k, r, ⟨hx, hy, hz⟩, L⟩ := s
  unfold Sh.v at *
  dsimp only at *
  cases F with
  | false =>
    have e : C = 50 := HC.out
    subst e
    go_enter Try.func57, Try.ntmps57
    go_wp2_with (go_at_call 81; refine Calls.mono HF.out ?_; rintro e V ⟨rfl, hb⟩)
    go_ret
    exact ⟨rfl, b_step hB.out hb⟩
  | true =>
    have c0 : (w.alloc (.cells #[.int .i64 k, .int .i64 r, .int .i64 hx, .int .i64 hy, .int .i64 hz, .slice o L.length c] 68)).cell? ⟨w.heap.size, 0, none⟩ = some (.int .i64 k) := by simp
    have c5 : (w.alloc (.cells #[.int .i64 k, .int .i64 r, .int .i64 hx, .int .i64 hy, .int .i64 hz, .slice o L.length c] 68)).cell? ⟨w.heap.size, 5, none⟩ = some (.slice o L.length c) := by simp
    by_cases k4 : k = 4
    · subst k4
      obtain ⟨m1, m2, m3, m4⟩ := may_parts (HM.out rfl rfl)
      have m3 : Hid _ := m3
      have m5 : Hid (pt L 0 ≠ pt L 1) := fun e => by
        rw [pt_getElem (by omega : 0 < L.length), pt_getElem (by omega : 1 < L.length)] at e
        exact (List.pairwise_iff_getElem.1 m4 0 1 (by omega) (by omega) (by omega)) e
      have HC : Hid (C = if flatP L = true then 51 else 0) := by show _ = _; rw [HC.out]; simp
      go_enter Try.func57, Try.ntmps57
      go_wp2_with (fail)
      refine Calls.mono HF.out ?_
      clear HF
      rintro e V ⟨rfl, hb⟩
      have d0 := c_after hb c0
      have d5 := c_after hb c5
      have hB2 : Hid _ := b_step hB.out hb
      clear hb c0 c5
      go_wp2_with (fail)
      refine Calls.mono (rflat_any _ L V (HV.out.below hB2.out) m1 m2 m3.out m5.out) ?_
      rintro e V2 ⟨rfl, hb⟩
      clear d0 d5
      generalize flatP L = fl at *
      cases fl with
      | true =>
        have e : C = 51 := HC.out
        subst e
        go_wp2_with (fail)
        go_ret
        exact ⟨rfl, b_step hB2.out hb⟩
      | false =>
        have e : C = 0 := HC.out
        subst e
        go_wp2_with (fail)
        go_ret
        exact ⟨rfl, b_step hB2.out hb⟩
    · have e : C = 0 := by rw [HC.out, if_pos rfl, if_neg (fun h => k4 h.1)]
      subst e
      go_enter Try.func57, Try.ntmps57
      go_wp2_with (fail)
      refine Calls.mono HF.out ?_
      clear HF
      rintro e V ⟨rfl, hb⟩
      have d0 := c_after hb c0
      have hB2 : Hid _ := b_step hB.out hb
      clear hb c0 c5
      go_wp2_with (fail)
      go_ret
      exact ⟨rfl, hB2.out⟩
end Go.Proofs.Ytccdgpijjgeedaa
