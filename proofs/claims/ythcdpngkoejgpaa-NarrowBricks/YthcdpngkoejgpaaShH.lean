/- Which shapes may be: formed, Check. -/
import Derived.Test.YthcdpngkoejgpaaShG
namespace Go.Proofs.Ythcdpngkoejgpaa
open Go.RowKit Go.Shelf
set_option linter.unusedVariables false

/-- A shape's numbers. -/
structure Sh where
  kind : Int
  radius : Int
  half : Pt
  pts : List Pt
def Sh.v (s : Sh) (pv : Value) : Value := .agg #[.int .i64 s.kind, .int .i64 s.radius, .int .i64 s.half.x, .int .i64 s.half.y, .int .i64 s.half.z, pv]
def inR (n a b : Int) : Bool := decide (a ≤ n ∧ n ≤ b)
def formP (s : Sh) : Bool :=
  if s.kind = 1 then inR s.radius 1 16384
  else if s.kind = 2 then inR s.radius 1 16384 && halfOk s.half.x
  else if s.kind = 3 then inR s.radius 0 16384 && (halfOk s.half.x && (halfOk s.half.y && halfOk s.half.z))
  else if s.kind = 4 then inR s.radius 0 16384 && mayP s.pts
  else false
def checkP (s : Sh) : Int := if formP s then (if s.kind = 4 ∧ flatP s.pts = true then 51 else 0) else 50
theorem between_is (n a b : Int) (w : World) (t : Bool) (h : inR n a b = t) :
    Calls Try.prog 111 #[.int .i64 n, .int .i64 a, .int .i64 b] w fun e w' => e = .returned (.bool t) ∧ w' = w := by
  subst h; exact between_any n a b w
theorem halves1 (n : Int) (w : World) : Calls Try.prog 112 #[.slice (some ⟨w.heap.size, 0, none⟩) 1 1] (w.alloc (.cells #[.int .i64 n] 3)) fun e W => e = .returned (.bool (halfOk n)) ∧ W = w.alloc (.cells #[.int .i64 n] 3) := by
  have h := halves_any [n] w.heap.size (w.alloc (.cells #[.int .i64 n] 3)) (fun i hi => by
    match i, hi with
    | 0, _ => simp) (by simp)
  simpa using h
theorem halves3 (x y z : Int) (w : World) : Calls Try.prog 112 #[.slice (some ⟨w.heap.size, 0, none⟩) 3 3] (w.alloc (.cells #[.int .i64 x, .int .i64 y, .int .i64 z] 3)) fun e W => e = .returned (.bool (halfOk x && (halfOk y && halfOk z))) ∧ W = w.alloc (.cells #[.int .i64 x, .int .i64 y, .int .i64 z] 3) := by
  have h := halves_any [x, y, z] w.heap.size (w.alloc (.cells #[.int .i64 x, .int .i64 y, .int .i64 z] 3)) (fun i hi => by
    match i, hi with
    | 0, _ => simp
    | 1, _ => simp
    | 2, _ => simp) (by simp)
  simpa using h
set_option maxHeartbeats 1000000 in
set_option maxRecDepth 100000 in
theorem formed_any (s : Sh) (pv : Value) (w : World) (hv : Lies w pv s.pts) :
    Calls Try.prog 79 #[s.v pv] w fun e W => e = .returned (.bool (formP s)) ∧ Below w.heap.size w W := by
  obtain ⟨k, r, ⟨hx, hy, hz⟩, L⟩ := s
  have HF : Hid (formP ⟨k, r, ⟨hx, hy, hz⟩, L⟩ = if k = 1 then inR r 1 16384 else if k = 2 then inR r 1 16384 && halfOk hx else if k = 3 then inR r 0 16384 && (halfOk hx && (halfOk hy && halfOk hz)) else if k = 4 then inR r 0 16384 && mayP L else false) := rfl
  generalize formP ⟨k, r, ⟨hx, hy, hz⟩, L⟩ = F at *
  have hB : Hid (Below w.heap.size w (w.alloc (.cells #[.int .i64 k, .int .i64 r, .int .i64 hx, .int .i64 hy, .int .i64 hz, pv] 60))) := n_after w _
  have HP : Hid _ := pointsMayBe_any pv L (w.alloc (.cells #[.int .i64 k, .int .i64 r, .int .i64 hx, .int .i64 hy, .int .i64 hz, pv] 60)) (hv.below (n_after w _))
  have H1 : Hid _ := halves1 hx (w.alloc (.cells #[.int .i64 k, .int .i64 r, .int .i64 hx, .int .i64 hy, .int .i64 hz, pv] 60))
  have H3 : Hid _ := halves3 hx hy hz (w.alloc (.cells #[.int .i64 k, .int .i64 r, .int .i64 hx, .int .i64 hy, .int .i64 hz, pv] 60))
  obtain ⟨o, c, rfl, hlc, hcm, _⟩ := hv.form
  dsimp only at hlc hcm HP H1 H3 hB ⊢
  clear hv
  rw [World.size_alloc] at H1 H3
  unfold Sh.v
  dsimp only
  by_cases k1 : k = 1
  · subst k1
    have e : F = inR r 1 16384 := HF.out
    subst e
    generalize hb : inR r 1 16384 = t
    go_enter Try.func79, Try.ntmps79
    go_wp2_with (go_at_call 111; refine (between_is _ _ _ _ t hb).mono ?_; rintro e w' ⟨rfl, rfl⟩)
    go_ret
    exact ⟨rfl, hB.out⟩
  by_cases k2 : k = 2
  · subst k2
    have e : F = (inR r 1 16384 && halfOk hx) := HF.out
    cases hb : inR r 1 16384 with
    | false =>
      rw [hb] at e
      subst e
      go_enter Try.func79, Try.ntmps79
      go_wp2_with (go_at_call 111; refine (between_is _ _ _ _ false hb).mono ?_; rintro e w' ⟨rfl, rfl⟩)
      go_ret
      exact ⟨rfl, hB.out⟩
    | true =>
      rw [hb] at e
      subst e
      generalize halfOk hx = t at *
      go_enter Try.func79, Try.ntmps79
      go_wp2_with (first | (go_at_call 111; refine (between_is _ _ _ _ true hb).mono ?_; rintro e w' ⟨rfl, rfl⟩) | (go_at_call 112; refine Calls.mono H1.out ?_; rintro e w' ⟨rfl, rfl⟩))
      go_ret
      exact ⟨by simp, b_step hB.out (n_after _ _)⟩
  by_cases k3 : k = 3
  · subst k3
    have e : F = (inR r 0 16384 && (halfOk hx && (halfOk hy && halfOk hz))) := HF.out
    cases hb : inR r 0 16384 with
    | false =>
      rw [hb] at e
      subst e
      go_enter Try.func79, Try.ntmps79
      go_wp2_with (go_at_call 111; refine (between_is _ _ _ _ false hb).mono ?_; rintro e w' ⟨rfl, rfl⟩)
      go_ret
      exact ⟨rfl, hB.out⟩
    | true =>
      rw [hb] at e
      generalize (halfOk hx && (halfOk hy && halfOk hz)) = t at *
      subst e
      go_enter Try.func79, Try.ntmps79
      go_wp2_with (first | (go_at_call 111; refine (between_is _ _ _ _ true hb).mono ?_; rintro e w' ⟨rfl, rfl⟩) | (go_at_call 112; refine Calls.mono H3.out ?_; rintro e w' ⟨rfl, rfl⟩))
      go_ret
      exact ⟨by simp, b_step hB.out (n_after _ _)⟩
  by_cases k4 : k = 4
  · subst k4
    have e : F = (inR r 0 16384 && mayP L) := HF.out
    cases hb : inR r 0 16384 with
    | false =>
      rw [hb] at e
      subst e
      go_enter Try.func79, Try.ntmps79
      go_wp2_with (go_at_call 111; refine (between_is _ _ _ _ false hb).mono ?_; rintro e w' ⟨rfl, rfl⟩)
      go_ret
      exact ⟨rfl, hB.out⟩
    | true =>
      rw [hb] at e
      generalize mayP L = t at *
      subst e
      go_enter Try.func79, Try.ntmps79
      go_wp2_with (first | (go_at_call 111; refine (between_is _ _ _ _ true hb).mono ?_; rintro e w' ⟨rfl, rfl⟩) | (go_at_call 113; refine Calls.mono HP.out ?_; rintro e V ⟨rfl, hb2⟩))
      go_ret
      exact ⟨by simp, b_step hB.out hb2⟩
  · have e : F = false := by rw [HF.out, if_neg k1, if_neg k2, if_neg k3, if_neg k4]
    subst e
    go_enter Try.func79, Try.ntmps79
    go_wp2
    go_ret
    exact ⟨rfl, hB.out⟩
theorem may_parts {L : List Pt} (h : mayP L = true) : 4 ≤ L.length ∧ L.length ≤ 12 ∧ (∀ p ∈ L, p.inB 65536 = true) ∧ L.Nodup := by
  unfold mayP at h
  simp only [Bool.and_eq_true, decide_eq_true_eq, List.all_eq_true] at h
  exact ⟨h.1.1, h.1.2, h.2.1, h.2.2⟩
theorem form_hull {s : Sh} (h : formP s = true) (k : s.kind = 4) : mayP s.pts = true := by
  unfold formP at h
  rw [if_neg (by omega), if_neg (by omega), if_neg (by omega), if_pos k, Bool.and_eq_true] at h
  exact h.2
set_option maxHeartbeats 1000000 in
set_option maxRecDepth 100000 in
theorem check_any (s : Sh) (pv : Value) (w : World) (hv : Lies w pv s.pts) :
    Calls Try.prog 48 #[s.v pv] w fun e W => e = .returned (.int .i64 (checkP s)) ∧ Below w.heap.size w W := by
  have hB : Hid (Below w.heap.size w (w.alloc (.cells #[.int .i64 s.kind, .int .i64 s.radius, .int .i64 s.half.x, .int .i64 s.half.y, .int .i64 s.half.z, pv] 60))) := n_after w _
  have HF : Hid _ := formed_any s pv (w.alloc (.cells #[.int .i64 s.kind, .int .i64 s.radius, .int .i64 s.half.x, .int .i64 s.half.y, .int .i64 s.half.z, pv] 60)) (hv.below hB.out)
  have HC : Hid (checkP s = if formP s then (if s.kind = 4 ∧ flatP s.pts = true then 51 else 0) else 50) := rfl
  have HM : Hid (formP s = true → s.kind = 4 → mayP s.pts = true) := fun a b => form_hull a b
  generalize checkP s = C at *
  have HV : Hid _ := hv
  obtain ⟨o, c, rfl, hlc, hcm, _⟩ := hv.form
  clear hv
  generalize formP s = F at *
  obtain ⟨k, r, ⟨hx, hy, hz⟩, L⟩ := s
  unfold Sh.v at *
  dsimp only at *
  cases F with
  | false =>
    have e : C = 50 := HC.out
    subst e
    go_enter Try.func48, Try.ntmps48
    go_wp2_with (go_at_call 79; refine Calls.mono HF.out ?_; rintro e V ⟨rfl, hb⟩)
    go_ret
    exact ⟨rfl, b_step hB.out hb⟩
  | true =>
    have c0 : (w.alloc (.cells #[.int .i64 k, .int .i64 r, .int .i64 hx, .int .i64 hy, .int .i64 hz, .slice o L.length c] 60)).cell? ⟨w.heap.size, 0, none⟩ = some (.int .i64 k) := by simp
    have c5 : (w.alloc (.cells #[.int .i64 k, .int .i64 r, .int .i64 hx, .int .i64 hy, .int .i64 hz, .slice o L.length c] 60)).cell? ⟨w.heap.size, 5, none⟩ = some (.slice o L.length c) := by simp
    by_cases k4 : k = 4
    · subst k4
      obtain ⟨m1, m2, m3, m4⟩ := may_parts (HM.out rfl rfl)
      have m3 : Hid _ := m3
      have HC : Hid (C = if flatP L = true then 51 else 0) := by show _ = _; rw [HC.out]; simp
      go_enter Try.func48, Try.ntmps48
      go_wp2_with (fail)
      refine Calls.mono HF.out ?_
      clear HF
      rintro e V ⟨rfl, hb⟩
      have d0 := c_after hb c0
      have d5 := c_after hb c5
      have hB2 : Hid _ := b_step hB.out hb
      clear hb c0 c5
      go_wp2_with (fail)
      refine Calls.mono (flat_any _ L V (HV.out.below hB2.out) m1 m2 m3.out) ?_
      rintro e V2 ⟨rfl, hb⟩
      clear d0 d5
      generalize flatP L = fl at *
      cases fl with
      | true =>
        have e : C = 51 := HC.out
        subst e
        go_wp2_with (fail)
        go_ret
        exact ⟨rfl, b_step hB2.out hb⟩
      | false =>
        have e : C = 0 := HC.out
        subst e
        go_wp2_with (fail)
        go_ret
        exact ⟨rfl, b_step hB2.out hb⟩
    · have e : C = 0 := by rw [HC.out, if_pos rfl, if_neg (fun h => k4 h.1)]
      subst e
      go_enter Try.func48, Try.ntmps48
      go_wp2_with (fail)
      refine Calls.mono HF.out ?_
      clear HF
      rintro e V ⟨rfl, hb⟩
      have d0 := c_after hb c0
      have hB2 : Hid _ := b_step hB.out hb
      clear hb c0 c5
      go_wp2_with (fail)
      go_ret
      exact ⟨rfl, hB2.out⟩
end Go.Proofs.Ythcdpngkoejgpaa
