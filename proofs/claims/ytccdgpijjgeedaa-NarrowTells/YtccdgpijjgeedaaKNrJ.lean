/- Chapter 9's examples. -/
import Derived.Test.YtccdgpijjgeedaaKNrI
namespace Go.Proofs.Ytccdgpijjgeedaa
open Go.RowKit Go.Shelf
set_option linter.unusedVariables false

theorem dn_x (m : Int) (h : 0 ≤ m) : dn ⟨m, 0, 0⟩ = m ∧ dn ⟨-m, 0, 0⟩ = m ∧ up ⟨m, 0, 0⟩ = m ∧ up ⟨-m, 0, 0⟩ = m := by
  have e1 : Pt.dot ⟨m, 0, 0⟩ ⟨m, 0, 0⟩ = m * m := by unfold Pt.dot; dsimp only; omega
  have e2 : Pt.dot ⟨-m, 0, 0⟩ ⟨-m, 0, 0⟩ = m * m := by unfold Pt.dot; dsimp only; rw [Int.neg_mul_neg]; omega
  have h3 : m * m < (m + 1) * (m + 1) := by rw [Int.add_mul, Int.mul_add]; omega
  have d1 : dn ⟨m, 0, 0⟩ = m := (dn_of (n := ⟨m, 0, 0⟩) h (by rw [e1]; exact Int.le_refl _) (by rw [e1]; exact h3)).symm
  have d2 : dn ⟨-m, 0, 0⟩ = m := (dn_of (n := ⟨-m, 0, 0⟩) h (by rw [e2]; exact Int.le_refl _) (by rw [e2]; exact h3)).symm
  exact ⟨d1, d2, by unfold up; rw [d1, e1, if_pos rfl], by unfold up; rw [d2, e2, if_pos rfl]⟩
theorem ex_short : Pt.short ⟨10, 0, 0⟩ = ⟨1, 0, 0⟩ ∧ Pt.short ⟨1, 0, 0⟩ = ⟨1, 0, 0⟩ := by
  have h : ∀ p : Pt, p.inB 1048576 = true → p.short = p.low.low := fun p hp => by
    unfold Pt.short
    rw [if_pos (inB_mono hp (by decide))]
    unfold Pt.half
    rw [halveF_id _ _ (Pt.low_in hp)]
  rw [h _ (by decide), h _ (by decide)]
  decide
theorem ex_lng : Pt.lng ⟨1, 0, 0⟩ = ⟨1048576, 0, 0⟩ := by
  unfold Pt.lng
  rw [ex_short.2, if_neg (by decide)]
  simp [lngF, Pt.inB, Pt.dbl]
theorem ex_cands : both (candL ⟨[⟨0, 0, 0⟩], [], [], 2⟩ ⟨[⟨10, 0, 0⟩], [], [], 3⟩) = [⟨1048576, 0, 0⟩, ⟨-1048576, 0, 0⟩] := by
  have e1 : candL ⟨[⟨0, 0, 0⟩], [], [], 2⟩ ⟨[⟨10, 0, 0⟩], [], [], 3⟩ = [⟨1, 0, 0⟩] := by
    unfold candL crossL wayL wayR wayG wayD
    simp [Pt.sub, ex_short.1]
  rw [e1]
  unfold both
  rw [ex_lng, if_neg (by decide)]
  rfl
theorem told_of {a b : Cr} {x : Pt × Int} (h : bestL (gapZ a.P b.P a.r b.r) none (both (candL a b)) = some x) : told a b = x := by unfold told; rw [h]
theorem told_none {a b : Cr} (h : both (candL a b) = []) : told a b = (⟨0, 0, 1048576⟩, -a.r - b.r) := by unfold told; rw [h]; rfl
theorem ex_rooms : room ⟨1048576, 0, 0⟩ [⟨0, 0, 0⟩] [⟨10, 0, 0⟩] = 10485760 ∧ room ⟨-1048576, 0, 0⟩ [⟨0, 0, 0⟩] [⟨10, 0, 0⟩] = -10485760 := by
  unfold room loP hiP
  simp [loK, hiK, pt, Pt.dot]
theorem ex_g1 : gapZ [⟨0, 0, 0⟩] [⟨10, 0, 0⟩] 2 3 ⟨1048576, 0, 0⟩ = 5 := by
  obtain ⟨h1, h2, h3, h4⟩ := dn_x 1048576 (by omega)
  unfold gapZ gap0
  rw [ex_rooms.1, h3, if_pos (by omega)]
  simp
theorem ex_g2 : gapZ [⟨0, 0, 0⟩] [⟨10, 0, 0⟩] 2 3 ⟨-1048576, 0, 0⟩ = -15 := by
  obtain ⟨h1, h2, h3, h4⟩ := dn_x 1048576 (by omega)
  unfold gapZ gap0
  rw [ex_rooms.2, h2, if_neg (by omega)]
  simp
theorem best_two (g : Pt → Int) (p q : Pt) (h : ¬ g p < g q) : bestL g none [p, q] = some (p, g p) := by
  unfold bestL
  simp [List.foldl, bestS, h]
theorem ex_told : told ⟨[⟨0, 0, 0⟩], [], [], 2⟩ ⟨[⟨10, 0, 0⟩], [], [], 3⟩ = (⟨1048576, 0, 0⟩, 5) := by
  have hb := best_two (gapZ [⟨0, 0, 0⟩] [⟨10, 0, 0⟩] 2 3) ⟨1048576, 0, 0⟩ ⟨-1048576, 0, 0⟩ (by rw [ex_g1, ex_g2]; omega)
  rw [ex_g1, ← ex_cands] at hb
  exact told_of hb
theorem ex_may : mayC ⟨[⟨0, 0, 0⟩], [], [], 2⟩ = true ∧ mayC ⟨[⟨10, 0, 0⟩], [], [], 3⟩ = true ∧ mayC ⟨[], [], [], 0⟩ = false := by decide
theorem ex_sizes : dnT ⟨1, 1, 0⟩ = 1 ∧ upT ⟨1, 1, 0⟩ = 2 := by decide
theorem lies_nil9 (w : World) : Lies w (.slice none 0 0) [] := ⟨none, 0, rfl, Nat.le_refl _, by omega, fun i hi => by simp at hi⟩
theorem lies_one9 {W : World} {b : Nat} {p : Pt} (h : Cel W b [.int .i64 p.x, .int .i64 p.y, .int .i64 p.z]) : Lies W (.slice (some ⟨b, 0, none⟩) 1 1) [p] := by
  refine ⟨_, 1, rfl, Nat.le_refl _, by omega, fun i hi => ⟨b, 0, rfl, ?_⟩⟩
  have e : i = 0 := by simp at hi; exact hi
  subst e
  exact ⟨h 0 _ rfl, h 1 _ rfl, h 2 _ rfl⟩

set_option maxRecDepth 100000 in
set_option maxHeartbeats 8000000 in
theorem awake9_any (w : World) : Calls Try.prog 9 #[] w fun e W => e = .returned (.bool true) ∧ Below w.heap.size w W := by
  obtain ⟨m1, m2, m3⟩ := ex_may
  obtain ⟨z1, z2⟩ := ex_sizes
  obtain ⟨W1, hW1⟩ : ∃ V, V = (((w.alloc (.cells #[.int .i64 0, .int .i64 0, .int .i64 0] 26)).alloc (.cells #[.slice (some ⟨w.heap.size, 0, none⟩) 1 1, .slice none 0 0, .slice none 0 0, .int .i64 2] 24)).alloc (.cells #[.int .i64 10, .int .i64 0, .int .i64 0] 26)).alloc (.cells #[.slice (some ⟨w.heap.size + 1 + 1, 0, none⟩) 1 1, .slice none 0 0, .slice none 0 0, .int .i64 3] 24) := ⟨_, rfl⟩
  have c1 := Cel.two w [.int .i64 0, .int .i64 0, .int .i64 0] [.slice (some ⟨w.heap.size, 0, none⟩) 1 1, .slice none 0 0, .slice none 0 0, .int .i64 2] 26 24
  have c2 := Cel.two ((w.alloc (.cells #[.int .i64 0, .int .i64 0, .int .i64 0] 26)).alloc (.cells #[.slice (some ⟨w.heap.size, 0, none⟩) 1 1, .slice none 0 0, .slice none 0 0, .int .i64 2] 24)) [.int .i64 10, .int .i64 0, .int .i64 0] [.slice (some ⟨w.heap.size + 1 + 1, 0, none⟩) 1 1, .slice none 0 0, .slice none 0 0, .int .i64 3] 26 24
  rw [World.size_alloc, World.size_alloc] at c2
  have b2 : Below (((w.alloc (.cells #[.int .i64 0, .int .i64 0, .int .i64 0] 26)).alloc (.cells #[.slice (some ⟨w.heap.size, 0, none⟩) 1 1, .slice none 0 0, .slice none 0 0, .int .i64 2] 24))).heap.size ((w.alloc (.cells #[.int .i64 0, .int .i64 0, .int .i64 0] 26)).alloc (.cells #[.slice (some ⟨w.heap.size, 0, none⟩) 1 1, .slice none 0 0, .slice none 0 0, .int .i64 2] 24)) W1 := by rw [hW1]; exact b_step (n_after _ _) (n_after _ _)
  have CP : Hid (Cel W1 w.heap.size [.int .i64 0, .int .i64 0, .int .i64 0]) := c1.1.step b2
  have CA : Hid (Cel W1 (w.heap.size + 1) [.slice (some ⟨w.heap.size, 0, none⟩) 1 1, .slice none 0 0, .slice none 0 0, .int .i64 2]) := c1.2.step b2
  have CQ : Hid (Cel W1 (w.heap.size + 1 + 1) [.int .i64 10, .int .i64 0, .int .i64 0]) := by show Cel _ _ _; rw [hW1]; exact c2.1
  have CB : Hid (Cel W1 (w.heap.size + 1 + 1 + 1) [.slice (some ⟨w.heap.size + 1 + 1, 0, none⟩) 1 1, .slice none 0 0, .slice none 0 0, .int .i64 3]) := by show Cel _ _ _; rw [hW1]; exact c2.2
  have HB : Hid (Below w.heap.size w W1) := b_step (b_step (n_after _ _) (n_after _ _)) b2
  have HA1 : Hid _ := napart_any [⟨0, 0, 0⟩] [] [] [⟨10, 0, 0⟩] [] [] 2 3 (.slice (some ⟨w.heap.size, 0, none⟩) 1 1) (.slice none 0 0) (.slice none 0 0) (.slice (some ⟨w.heap.size + 1 + 1, 0, none⟩) 1 1) (.slice none 0 0) (.slice none 0 0) W1 (lies_one9 CP.out) (lies_nil9 _) (lies_nil9 _) (lies_one9 CQ.out) (lies_nil9 _) (lies_nil9 _)
  have HA2 : Hid _ := fun (w' : World) (h : Lies w' (.slice (some ⟨w.heap.size, 0, none⟩) 1 1) [⟨0, 0, 0⟩]) => napart_any [⟨0, 0, 0⟩] [] [] [] [] [] 2 0 (.slice (some ⟨w.heap.size, 0, none⟩) 1 1) (.slice none 0 0) (.slice none 0 0) (.slice none 0 0) (.slice none 0 0) (.slice none 0 0) w' h (lies_nil9 _) (lies_nil9 _) (lies_nil9 _) (lies_nil9 _) (lies_nil9 _)
  have HS : Hid _ := fun w' => nsizes_any ⟨1, 1, 0⟩ w'
  unfold apartV at HA1 HA2
  rw [m1, m2, ex_told] at HA1
  simp only [m1, m3, Bool.and_true, Bool.and_false, Bool.false_eq_true, if_false, if_true] at HA1 HA2
  rw [z1, z2] at HS
  unfold coreA at HA1 HA2
  unfold Pt.v at HS
  dsimp only at HA1 HA2 HS
  clear m1 m2 m3 z1 z2 c1 c2 b2
  go_enter Try.func9, Try.ntmps9
  go_upto_region 3 with fail
  rw [← hW1]
  clear hW1
  obtain ⟨pb, hpb⟩ : ∃ b, b = w.heap.size := ⟨_, rfl⟩
  obtain ⟨ab, hab⟩ : ∃ b, b = w.heap.size + 1 := ⟨_, rfl⟩
  obtain ⟨qb, hqb⟩ : ∃ b, b = w.heap.size + 1 + 1 := ⟨_, rfl⟩
  obtain ⟨bb, hbb⟩ : ∃ b, b = w.heap.size + 1 + 1 + 1 := ⟨_, rfl⟩
  rw [← hbb, ← hqb, ← hab, ← hpb]
  rw [← hpb] at CP HA2
  rw [← hab, ← hpb] at CA
  rw [← hqb] at CQ
  rw [← hbb, ← hqb] at CB
  rw [← hqb, ← hpb] at HA1
  clear hpb hab hqb hbb
  have x0 := CA.out 0 _ rfl
  have x1 := CA.out 1 _ rfl
  have x2 := CA.out 2 _ rfl
  have x3 := CA.out 3 _ rfl
  have y0 := CB.out 0 _ rfl
  have y1 := CB.out 1 _ rfl
  have y2 := CB.out 2 _ rfl
  have y3 := CB.out 3 _ rfl
  go_wp2_with (fail)
  refine Calls.mono HA1.out ?_
  rintro e V1 ⟨rfl, hb⟩
  clear HA1 x0 x1 x2 x3 y0 y1 y2 y3 CQ CB
  have CA : Hid _ := Cel.step CA.out hb
  have CP : Hid _ := Cel.step CP.out hb
  have HB : Hid _ := b_step HB.out hb
  clear hb
  go_upto_region 4 with fail
  obtain ⟨W2, hW2⟩ : ∃ V, V = V1.alloc (.cells #[.int .i64 1048576, .int .i64 0, .int .i64 0, .int .i64 5] 29) := ⟨_, rfl⟩
  have b9 : Below V1.heap.size V1 W2 := by rw [hW2]; exact n_after _ _
  have CX : Hid (Cel W2 V1.heap.size [.int .i64 1048576, .int .i64 0, .int .i64 0, .int .i64 5]) := by show Cel _ _ _; rw [hW2]; exact Cel.new _ _ _
  obtain ⟨xb, hxb⟩ : ∃ b, b = V1.heap.size := ⟨_, rfl⟩
  rw [← hW2, ← hxb]
  rw [← hxb] at CX
  clear hW2 hxb
  have CA : Hid _ := Cel.step CA.out b9
  have CP : Hid _ := Cel.step CP.out b9
  have HB : Hid _ := b_step HB.out b9
  clear b9
  have x0 := CA.out 0 _ rfl
  have x1 := CA.out 1 _ rfl
  have x2 := CA.out 2 _ rfl
  have x3 := CA.out 3 _ rfl
  have HA3 : Hid _ := HA2.out W2 (lies_one9 CP.out)
  clear HA2
  go_wp2_with (fail)
  refine Calls.mono HA3.out ?_
  rintro e V3 ⟨rfl, hb⟩
  have CX : Hid _ := Cel.step CX.out hb
  have HB : Hid _ := b_step HB.out hb
  clear hb HA3 x0 x1 x2 x3 CA CP
  go_upto_region 5 with fail
  have b9 : Below V3.heap.size V3 (V3.alloc (.cells #[.int .i64 0, .int .i64 0, .int .i64 0, .int .i64 0] 29)) := n_after _ _
  have CX : Hid _ := Cel.step CX.out b9
  have HB : Hid _ := b_step HB.out b9
  clear b9
  go_wp2_with (fail)
  refine Calls.mono (HS.out _) ?_
  rintro e V5 ⟨rfl, hb⟩
  have CX : Hid _ := Cel.step CX.out hb
  have HB : Hid _ := b_step HB.out hb
  clear hb
  have x0 := CX.out 0 _ rfl
  have x1 := CX.out 1 _ rfl
  have x2 := CX.out 2 _ rfl
  have x3 := CX.out 3 _ rfl
  go_wp2_with (fail)
  go_ret
  exact ⟨rfl, HB.out⟩
end Go.Proofs.Ytccdgpijjgeedaa
