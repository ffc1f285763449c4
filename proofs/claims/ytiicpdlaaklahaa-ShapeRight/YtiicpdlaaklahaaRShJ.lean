/- Masses of every shape: the program's and the document's own. -/
import Derived.Test.YtiicpdlaaklahaaRShH
import Derived.Test.YtiicpdlaaklahaaRShI
namespace Go.Proofs.Ytiicpdlaaklahaa
open Go.RowKit Go.Shelf Fx
set_option linter.unusedVariables false

/-- A mass, and the error. -/
structure MP where
  m : Int
  x : Int
  y : Int
  z : Int
  e : Int
def massP (s : Sh) (m : Int) : MP := if checkP s = 0 then (if 16777216 ≤ m ∧ m ≤ 1099511627776 then ⟨m, maxI (iner s m).x 4096, maxI (iner s m).y 4096, maxI (iner s m).z 4096, 0⟩ else ⟨0, 0, 0, 0, 120⟩) else ⟨0, 0, 0, 0, checkP s⟩
def MP.v (p : MP) : Value := .tuple #[.agg #[.int .i64 p.m, .int .i64 p.x, .int .i64 p.y, .int .i64 p.z], .int .i64 p.e]
set_option maxHeartbeats 2000000 in
set_option maxRecDepth 100000 in
theorem mass_bad (s : Sh) (pv : Value) (m : Int) (w0 : World) (hv : Lies w0 pv s.pts) (hno : checkP s ≠ 0 ∨ ¬ (16777216 ≤ m ∧ m ≤ 1099511627776)) :
    Calls Try.prog 13 #[s.v pv, .int .i64 m] w0 fun e W => e = .returned (.tuple #[.agg #[.int .i64 0, .int .i64 0, .int .i64 0, .int .i64 0], .int .i64 (if checkP s = 0 then 120 else checkP s)]) ∧ Below w0.heap.size w0 W := by
  have hB : Hid (Below w0.heap.size w0 ((w0.alloc (.cells #[.int .i64 s.kind, .int .i64 s.radius, .int .i64 s.half.x, .int .i64 s.half.y, .int .i64 s.half.z, pv] 26)).alloc (.cells #[.int .i64 0, .int .i64 0, .int .i64 0, .int .i64 0] 36))) := b_step (n_after w0 _) (n_after _ _)
  have HF : Hid _ := core_any s pv ((w0.alloc (.cells #[.int .i64 s.kind, .int .i64 s.radius, .int .i64 s.half.x, .int .i64 s.half.y, .int .i64 s.half.z, pv] 26)).alloc (.cells #[.int .i64 0, .int .i64 0, .int .i64 0, .int .i64 0] 36)) (hv.below hB.out)
  have B1 : Hid (Cells ((w0.alloc (.cells #[.int .i64 s.kind, .int .i64 s.radius, .int .i64 s.half.x, .int .i64 s.half.y, .int .i64 s.half.z, pv] 26)).alloc (.cells #[.int .i64 0, .int .i64 0, .int .i64 0, .int .i64 0] 36)) w0.heap.size [.int .i64 s.kind, .int .i64 s.radius, .int .i64 s.half.x, .int .i64 s.half.y, .int .i64 s.half.z, pv]) := (Cells.new w0 [.int .i64 s.kind, .int .i64 s.radius, .int .i64 s.half.x, .int .i64 s.half.y, .int .i64 s.half.z, pv] _).step (n_after _ _)
  have B2 : Hid (Cells ((w0.alloc (.cells #[.int .i64 s.kind, .int .i64 s.radius, .int .i64 s.half.x, .int .i64 s.half.y, .int .i64 s.half.z, pv] 26)).alloc (.cells #[.int .i64 0, .int .i64 0, .int .i64 0, .int .i64 0] 36)) (w0.heap.size + 1) [.int .i64 0, .int .i64 0, .int .i64 0, .int .i64 0]) := by have := Cells.new (w0.alloc (.cells #[.int .i64 s.kind, .int .i64 s.radius, .int .i64 s.half.x, .int .i64 s.half.y, .int .i64 s.half.z, pv] 26)) [.int .i64 0, .int .i64 0, .int .i64 0, .int .i64 0] 36; rwa [World.size_alloc] at this
  have HOK : Hid (checkP s = 0 → _) := fun h => ok_parts h

  obtain ⟨er, her⟩ : ∃ er, (if checkP s = 0 then 120 else checkP s) = er := ⟨_, rfl⟩
  rw [her]
  have HER : Hid _ := her
  clear her
  generalize ptsP s = P at *
  generalize axesP s = A at *
  generalize edgesP s = E at *
  generalize checkP s = C at *
  obtain ⟨k, r, ⟨hx, hy, hz⟩, L⟩ := s
  obtain ⟨o, c, rfl, hlc, hcm, _⟩ := hv.form
  clear hv
  unfold Sh.v at *
  dsimp only at *
  go_enter Try.func13, Try.ntmps13
  go_wp2_with (fail)
  refine Calls.mono HF.out ?_
  clear HF
  rintro e V ⟨vp, va, ve, hbad, hgood⟩
  obtain ⟨br, hbr⟩ : ∃ b, b = w0.heap.size + 1 := ⟨_, rfl⟩
  have hbl : w0.heap.size ≤ br := by omega
  rw [← hbr] at B2 ⊢
  clear hbr

  by_cases hC : C = 0
  · obtain ⟨rfl, hT⟩ := hgood hC
    subst hC
    have e1 : er = 120 := by rw [← HER.out, if_pos rfl]
    clear HER
    subst e1
    have hb0 := hT.below
    obtain ⟨op, cp, rfl, _⟩ := (Lies.of_row hT.rp).form
    obtain ⟨oa, ca, rfl, _⟩ := (Lies.of_row hT.ra).form
    obtain ⟨oe, ce, rfl, _⟩ := (Lies.of_row hT.re).form
    have LP : Hid _ := Lies.of_row hT.rp
    obtain ⟨X, hX⟩ : ∃ X : World, X = V.alloc (.cells #[.slice op P.length cp, .slice oa A.length ca, .slice oe E.length ce, .int .i64 r] 31) := ⟨_, rfl⟩
    obtain ⟨b6, hb6⟩ : ∃ b, b = V.heap.size := ⟨_, rfl⟩
    have hb : Below V.heap.size V X := by rw [hX]; exact n_after _ _
    have BC : Hid (Cells X b6 [.slice op P.length cp, .slice oa A.length ca, .slice oe E.length ce, .int .i64 r]) := by rw [hX, hb6]; exact Cells.new V [.slice op P.length cp, .slice oa A.length ca, .slice oe E.length ce, .int .i64 r] _
    have LP : Hid _ := LP.out.below hb
    have hD : Hid (Below w0.heap.size w0 X) := b_step (b_step hB.out hb0) hb
    have D1 : Hid (Cells X w0.heap.size [.int .i64 k, .int .i64 r, .int .i64 hx, .int .i64 hy, .int .i64 hz, .slice o L.length c]) := Cells.step (Cells.step B1.out hb0) hb
    have D2 : Hid (Cells X br [.int .i64 0, .int .i64 0, .int .i64 0, .int .i64 0]) := Cells.step (Cells.step B2.out hb0) hb
    obtain ⟨_, hr, p1, p2, p3⟩ := HOK.out rfl
    have P3 : Hid _ := p3
    go_upto_region 2 with fail
    rw [← hX, ← hb6]
    clear hX hb6 hb hb0 hT hbad hgood B1 B2 hB HOK p3
    have hmr : inR m 16777216 1099511627776 = false := decide_eq_false (by rcases hno with h | h; exact absurd rfl h; exact h)
    have r0 := (D2.out 0 _ rfl).1
    have f0 := (D2.out 0 _ rfl).2
    have r1 := (D2.out 1 _ rfl).1
    have f1 := (D2.out 1 _ rfl).2
    have r2 := (D2.out 2 _ rfl).1
    have f2 := (D2.out 2 _ rfl).2
    have r3 := (D2.out 3 _ rfl).1
    have f3 := (D2.out 3 _ rfl).2
    go_wp2_with (fail)
    refine Calls.mono (between_is m 16777216 1099511627776 _ false hmr) ?_
    rintro e X1 ⟨rfl, rfl⟩
    go_wp2_with (fail)
    refine bodyPost_ret (v := .tuple #[.agg #[.int .i64 0, .int .i64 0, .int .i64 0, .int .i64 0], .int .i64 120]) (by simp [results, Try.results13, go_sem, r0, r1, r2, r3]) rfl ⟨rfl, ?_⟩
    exact (((hD.out.setCell hbl _).setCell hbl _).setCell hbl _).setCell hbl _
  · have e1 : er = C := by rw [← HER.out, if_neg hC]
    clear HER
    subst e1
    obtain ⟨rfl, hT⟩ := hbad hC
    obtain ⟨op, cp, rfl, _⟩ := (Lies.of_row hT.rp).form
    obtain ⟨oa, ca, rfl, _⟩ := (Lies.of_row hT.ra).form
    obtain ⟨oe, ce, rfl, _⟩ := (Lies.of_row hT.re).form
    have hce : (er == 0) = false := beq_eq_false_iff_ne.2 hC
    obtain ⟨X, hX⟩ : ∃ X : World, X = V.alloc (.cells #[.slice op 0 cp, .slice oa 0 ca, .slice oe 0 ce, .int .i64 0] 31) := ⟨_, rfl⟩
    have hb : Below V.heap.size V X := by rw [hX]; exact n_after _ _
    have hD : Hid (Below w0.heap.size w0 X) := b_step (b_step hB.out hT.below) hb
    have D2 : Hid (Cells X br [.int .i64 0, .int .i64 0, .int .i64 0, .int .i64 0]) := Cells.step (Cells.step B2.out hT.below) hb
    go_upto_region 2 with fail
    rw [← hX]
    clear hX hb hT hbad hgood B1 B2 hB HOK
    have r0 := (D2.out 0 _ rfl).1
    have f0 := (D2.out 0 _ rfl).2
    have r1 := (D2.out 1 _ rfl).1
    have f1 := (D2.out 1 _ rfl).2
    have r2 := (D2.out 2 _ rfl).1
    have f2 := (D2.out 2 _ rfl).2
    have r3 := (D2.out 3 _ rfl).1
    have f3 := (D2.out 3 _ rfl).2
    go_wp2_with (fail)
    refine bodyPost_ret (v := .tuple #[.agg #[.int .i64 0, .int .i64 0, .int .i64 0, .int .i64 0], .int .i64 er]) (by simp [results, Try.results13, go_sem, r0, r1, r2, r3]) rfl ⟨rfl, ?_⟩
    exact (((hD.out.setCell hbl _).setCell hbl _).setCell hbl _).setCell hbl _
set_option maxHeartbeats 2000000 in
set_option maxRecDepth 100000 in
theorem rmass_bad (s : Sh) (pv : Value) (m : Int) (w0 : World) (hv : Lies w0 pv s.pts) (hno : checkP s ≠ 0 ∨ ¬ (16777216 ≤ m ∧ m ≤ 1099511627776)) :
    Calls Try.prog 14 #[s.v pv, .int .i64 m] w0 fun e W => e = .returned (.tuple #[.agg #[.int .i64 0, .int .i64 0, .int .i64 0, .int .i64 0], .int .i64 (if checkP s = 0 then 120 else checkP s)]) ∧ Below w0.heap.size w0 W := by
  have hB : Hid (Below w0.heap.size w0 ((w0.alloc (.cells #[.int .i64 s.kind, .int .i64 s.radius, .int .i64 s.half.x, .int .i64 s.half.y, .int .i64 s.half.z, pv] 26)).alloc (.cells #[.int .i64 0, .int .i64 0, .int .i64 0, .int .i64 0] 36))) := b_step (n_after w0 _) (n_after _ _)
  have HF : Hid _ := rcore_any s pv ((w0.alloc (.cells #[.int .i64 s.kind, .int .i64 s.radius, .int .i64 s.half.x, .int .i64 s.half.y, .int .i64 s.half.z, pv] 26)).alloc (.cells #[.int .i64 0, .int .i64 0, .int .i64 0, .int .i64 0] 36)) (hv.below hB.out)
  have B1 : Hid (Cells ((w0.alloc (.cells #[.int .i64 s.kind, .int .i64 s.radius, .int .i64 s.half.x, .int .i64 s.half.y, .int .i64 s.half.z, pv] 26)).alloc (.cells #[.int .i64 0, .int .i64 0, .int .i64 0, .int .i64 0] 36)) w0.heap.size [.int .i64 s.kind, .int .i64 s.radius, .int .i64 s.half.x, .int .i64 s.half.y, .int .i64 s.half.z, pv]) := (Cells.new w0 [.int .i64 s.kind, .int .i64 s.radius, .int .i64 s.half.x, .int .i64 s.half.y, .int .i64 s.half.z, pv] _).step (n_after _ _)
  have B2 : Hid (Cells ((w0.alloc (.cells #[.int .i64 s.kind, .int .i64 s.radius, .int .i64 s.half.x, .int .i64 s.half.y, .int .i64 s.half.z, pv] 26)).alloc (.cells #[.int .i64 0, .int .i64 0, .int .i64 0, .int .i64 0] 36)) (w0.heap.size + 1) [.int .i64 0, .int .i64 0, .int .i64 0, .int .i64 0]) := by have := Cells.new (w0.alloc (.cells #[.int .i64 s.kind, .int .i64 s.radius, .int .i64 s.half.x, .int .i64 s.half.y, .int .i64 s.half.z, pv] 26)) [.int .i64 0, .int .i64 0, .int .i64 0, .int .i64 0] 36; rwa [World.size_alloc] at this
  have HOK : Hid (checkP s = 0 → _) := fun h => ok_parts h

  obtain ⟨er, her⟩ : ∃ er, (if checkP s = 0 then 120 else checkP s) = er := ⟨_, rfl⟩
  rw [her]
  have HER : Hid _ := her
  clear her
  generalize ptsP s = P at *
  generalize axesP s = A at *
  generalize edgesP s = E at *
  generalize checkP s = C at *
  obtain ⟨k, r, ⟨hx, hy, hz⟩, L⟩ := s
  obtain ⟨o, c, rfl, hlc, hcm, _⟩ := hv.form
  clear hv
  unfold Sh.v at *
  dsimp only at *
  go_enter Try.func14, Try.ntmps14
  go_wp2_with (fail)
  refine Calls.mono HF.out ?_
  clear HF
  rintro e V ⟨vp, va, ve, hbad, hgood⟩
  obtain ⟨br, hbr⟩ : ∃ b, b = w0.heap.size + 1 := ⟨_, rfl⟩
  have hbl : w0.heap.size ≤ br := by omega
  rw [← hbr] at B2 ⊢
  clear hbr

  by_cases hC : C = 0
  · obtain ⟨rfl, hT⟩ := hgood hC
    subst hC
    have e1 : er = 120 := by rw [← HER.out, if_pos rfl]
    clear HER
    subst e1
    have hb0 := hT.below
    obtain ⟨op, cp, rfl, _⟩ := (Lies.of_row hT.rp).form
    obtain ⟨oa, ca, rfl, _⟩ := (Lies.of_row hT.ra).form
    obtain ⟨oe, ce, rfl, _⟩ := (Lies.of_row hT.re).form
    have LP : Hid _ := Lies.of_row hT.rp
    obtain ⟨X, hX⟩ : ∃ X : World, X = V.alloc (.cells #[.slice op P.length cp, .slice oa A.length ca, .slice oe E.length ce, .int .i64 r] 31) := ⟨_, rfl⟩
    obtain ⟨b6, hb6⟩ : ∃ b, b = V.heap.size := ⟨_, rfl⟩
    have hb : Below V.heap.size V X := by rw [hX]; exact n_after _ _
    have BC : Hid (Cells X b6 [.slice op P.length cp, .slice oa A.length ca, .slice oe E.length ce, .int .i64 r]) := by rw [hX, hb6]; exact Cells.new V [.slice op P.length cp, .slice oa A.length ca, .slice oe E.length ce, .int .i64 r] _
    have LP : Hid _ := LP.out.below hb
    have hD : Hid (Below w0.heap.size w0 X) := b_step (b_step hB.out hb0) hb
    have D1 : Hid (Cells X w0.heap.size [.int .i64 k, .int .i64 r, .int .i64 hx, .int .i64 hy, .int .i64 hz, .slice o L.length c]) := Cells.step (Cells.step B1.out hb0) hb
    have D2 : Hid (Cells X br [.int .i64 0, .int .i64 0, .int .i64 0, .int .i64 0]) := Cells.step (Cells.step B2.out hb0) hb
    obtain ⟨_, hr, p1, p2, p3⟩ := HOK.out rfl
    have P3 : Hid _ := p3
    go_upto_region 2 with fail
    rw [← hX, ← hb6]
    clear hX hb6 hb hb0 hT hbad hgood B1 B2 hB HOK p3
    have hm : ¬ (16777216 ≤ m ∧ m ≤ 1099511627776) := by rcases hno with h | h; exact absurd rfl h; exact h
    have r0 := (D2.out 0 _ rfl).1
    have f0 := (D2.out 0 _ rfl).2
    have r1 := (D2.out 1 _ rfl).1
    have f1 := (D2.out 1 _ rfl).2
    have r2 := (D2.out 2 _ rfl).1
    have f2 := (D2.out 2 _ rfl).2
    have r3 := (D2.out 3 _ rfl).1
    have f3 := (D2.out 3 _ rfl).2
    by_cases h1 : m < 16777216
    · go_wp2_with (fail)
      refine bodyPost_ret (v := .tuple #[.agg #[.int .i64 0, .int .i64 0, .int .i64 0, .int .i64 0], .int .i64 120]) (by simp [results, Try.results14, go_sem, r0, r1, r2, r3]) rfl ⟨rfl, ?_⟩
      exact (((hD.out.setCell hbl _).setCell hbl _).setCell hbl _).setCell hbl _
    · have h2 : m > 1099511627776 := by omega
      go_wp2_with (fail)
      refine bodyPost_ret (v := .tuple #[.agg #[.int .i64 0, .int .i64 0, .int .i64 0, .int .i64 0], .int .i64 120]) (by simp [results, Try.results14, go_sem, r0, r1, r2, r3]) rfl ⟨rfl, ?_⟩
      exact (((hD.out.setCell hbl _).setCell hbl _).setCell hbl _).setCell hbl _
  · have e1 : er = C := by rw [← HER.out, if_neg hC]
    clear HER
    subst e1
    obtain ⟨rfl, hT⟩ := hbad hC
    obtain ⟨op, cp, rfl, _⟩ := (Lies.of_row hT.rp).form
    obtain ⟨oa, ca, rfl, _⟩ := (Lies.of_row hT.ra).form
    obtain ⟨oe, ce, rfl, _⟩ := (Lies.of_row hT.re).form
    have hce : (er == 0) = false := beq_eq_false_iff_ne.2 hC
    obtain ⟨X, hX⟩ : ∃ X : World, X = V.alloc (.cells #[.slice op 0 cp, .slice oa 0 ca, .slice oe 0 ce, .int .i64 0] 31) := ⟨_, rfl⟩
    have hb : Below V.heap.size V X := by rw [hX]; exact n_after _ _
    have hD : Hid (Below w0.heap.size w0 X) := b_step (b_step hB.out hT.below) hb
    have D2 : Hid (Cells X br [.int .i64 0, .int .i64 0, .int .i64 0, .int .i64 0]) := Cells.step (Cells.step B2.out hT.below) hb
    go_upto_region 2 with fail
    rw [← hX]
    clear hX hb hT hbad hgood B1 B2 hB HOK
    have r0 := (D2.out 0 _ rfl).1
    have f0 := (D2.out 0 _ rfl).2
    have r1 := (D2.out 1 _ rfl).1
    have f1 := (D2.out 1 _ rfl).2
    have r2 := (D2.out 2 _ rfl).1
    have f2 := (D2.out 2 _ rfl).2
    have r3 := (D2.out 3 _ rfl).1
    have f3 := (D2.out 3 _ rfl).2
    go_wp2_with (fail)
    refine bodyPost_ret (v := .tuple #[.agg #[.int .i64 0, .int .i64 0, .int .i64 0, .int .i64 0], .int .i64 er]) (by simp [results, Try.results14, go_sem, r0, r1, r2, r3]) rfl ⟨rfl, ?_⟩
    exact (((hD.out.setCell hbl _).setCell hbl _).setCell hbl _).setCell hbl _
end Go.Proofs.Ytiicpdlaaklahaa
