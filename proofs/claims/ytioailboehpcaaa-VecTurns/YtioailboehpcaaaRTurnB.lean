/- The reference's product of turns, its turning on, and its turning back. -/
import Derived.Test.YtioailboehpcaaaRTurnA
namespace Go.Proofs.Ytioailboehpcaaa
open Go.RowKit Ref Fx
set_option linter.unusedVariables false

/-- Has one of the numbers that make a product of turns no value? -/
def timesBad (p0 p1 p2 p3 q0 q1 q2 q3 : Int) : Bool := (((((((false || (sub 0 q1).isNone) || (sub 0 q2).isNone) || (sub 0 q3).isNone) || (dot [p0, p1, p2, p3] [q0, ((sub 0 q1).getD 0), ((sub 0 q2).getD 0), ((sub 0 q3).getD 0)]).isNone) || (dot [p0, p1, p2, p3] [q1, q0, q3, ((sub 0 q2).getD 0)]).isNone) || (dot [p0, p1, p2, p3] [q2, ((sub 0 q3).getD 0), q0, q1]).isNone) || (dot [p0, p1, p2, p3] [q3, q2, ((sub 0 q1).getD 0), q0]).isNone)
def timesAt0 (p0 p1 p2 p3 q0 q1 q2 q3 : Int) : Int := (dot [p0, p1, p2, p3] [q0, ((sub 0 q1).getD 0), ((sub 0 q2).getD 0), ((sub 0 q3).getD 0)]).getD 0
def timesAt1 (p0 p1 p2 p3 q0 q1 q2 q3 : Int) : Int := (dot [p0, p1, p2, p3] [q1, q0, q3, ((sub 0 q2).getD 0)]).getD 0
def timesAt2 (p0 p1 p2 p3 q0 q1 q2 q3 : Int) : Int := (dot [p0, p1, p2, p3] [q2, ((sub 0 q3).getD 0), q0, q1]).getD 0
def timesAt3 (p0 p1 p2 p3 q0 q1 q2 q3 : Int) : Int := (dot [p0, p1, p2, p3] [q3, q2, ((sub 0 q1).getD 0), q0]).getD 0

theorem Ho.lay {W V : World} {p : Addr} {po : Nat} {f g : Bool} {l : List (Addr × Value)} (h : Ho W V p po f g l) (cs : Array Value) (t : TypeId) (k : List (Addr × Value)) (hk : ∀ c ∈ k, ∃ i : Nat, c.1 = ⟨V.heap.size, i, none⟩ ∧ cs[i]? = some c.2) : Ho W (V.alloc (.cells cs t)) p po f g (k ++ l) := by
  have h2 := h.alloc (.cells cs t)
  have hlt := World.block_lt_of_cell? _ _ h.own
  dsimp only at hlt
  refine ⟨h2.leaves, h2.flag, h2.flagf, h2.own, h2.ownf, fun c hc => ?_, fun c hc => ?_, h2.hp, h2.ho⟩
  · rcases List.mem_append.1 hc with hc | hc
    · obtain ⟨i, e, hi⟩ := hk c hc
      rw [e]
      exact ⟨by rw [World.cell?_alloc_at _ _ _ _ rfl]; exact hi, by simp [go_sem]⟩
    · exact h2.fix c hc
  · rcases List.mem_append.1 hc with hc | hc
    · obtain ⟨i, e, hi⟩ := hk c hc
      rw [e]; show V.heap.size ≠ po; omega
    · exact h2.far c hc
theorem times_chain {f g1 g2 g3 g4 g5 g6 g7 : Bool} {p0 p1 p2 p3 q0 q1 q2 q3 x y z a b c d : Int} (h1 : Step false (sub 0 q1) x g1) (h2 : Step g1 (sub 0 q2) y g2) (h3 : Step g2 (sub 0 q3) z g3) (h4 : Step g3 (dot [p0, p1, p2, p3] [q0, x, y, z]) a g4) (h5 : Step g4 (dot [p0, p1, p2, p3] [q1, q0, q3, y]) b g5) (h6 : Step g5 (dot [p0, p1, p2, p3] [q2, z, q0, q1]) c g6) (h7 : Step g6 (dot [p0, p1, p2, p3] [q3, q2, x, q0]) d g7) :
    cond g7 0 a = cond (timesBad p0 p1 p2 p3 q0 q1 q2 q3) 0 (timesAt0 p0 p1 p2 p3 q0 q1 q2 q3) ∧ cond g7 0 b = cond (timesBad p0 p1 p2 p3 q0 q1 q2 q3) 0 (timesAt1 p0 p1 p2 p3 q0 q1 q2 q3) ∧ cond g7 0 c = cond (timesBad p0 p1 p2 p3 q0 q1 q2 q3) 0 (timesAt2 p0 p1 p2 p3 q0 q1 q2 q3) ∧ cond g7 0 d = cond (timesBad p0 p1 p2 p3 q0 q1 q2 q3) 0 (timesAt3 p0 p1 p2 p3 q0 q1 q2 q3) ∧ (f || g7) = (f || timesBad p0 p1 p2 p3 q0 q1 q2 q3) := by
  obtain ⟨rfl, rfl⟩ := h1
  obtain ⟨rfl, rfl⟩ := h2
  obtain ⟨rfl, rfl⟩ := h3
  obtain ⟨rfl, rfl⟩ := h4
  obtain ⟨rfl, rfl⟩ := h5
  obtain ⟨rfl, rfl⟩ := h6
  obtain ⟨rfl, rfl⟩ := h7
  exact ⟨rfl, rfl, rfl, rfl, rfl⟩
set_option maxRecDepth 100000 in
set_option maxHeartbeats 4000000 in
theorem rvtimes_law (b off : Nat) (f : Bool) (p0 p1 p2 p3 q0 q1 q2 q3 : Int) (W : World) (hc : W.cell? ⟨b, off, none⟩ = some (.bool f)) (hf : W.frozen? ⟨b, off, none⟩ = false) :
    Calls Try.prog 21 #[.pointer (some ⟨b, off, none⟩), .agg #[.int .i64 (p0), .int .i64 (p1), .int .i64 (p2), .int .i64 (p3)], .agg #[.int .i64 (q0), .int .i64 (q1), .int .i64 (q2), .int .i64 (q3)]] W fun e W' => ∃ v0 v1 v2 v3 g, e = .returned (.agg #[.int .i64 (v0), .int .i64 (v1), .int .i64 (v2), .int .i64 (v3)]) ∧ Hid (v0 = cond (timesBad p0 p1 p2 p3 q0 q1 q2 q3) 0 (timesAt0 p0 p1 p2 p3 q0 q1 q2 q3) ∧ v1 = cond (timesBad p0 p1 p2 p3 q0 q1 q2 q3) 0 (timesAt1 p0 p1 p2 p3 q0 q1 q2 q3) ∧ v2 = cond (timesBad p0 p1 p2 p3 q0 q1 q2 q3) 0 (timesAt2 p0 p1 p2 p3 q0 q1 q2 q3) ∧ v3 = cond (timesBad p0 p1 p2 p3 q0 q1 q2 q3) 0 (timesAt3 p0 p1 p2 p3 q0 q1 q2 q3) ∧ g = (f || timesBad p0 p1 p2 p3 q0 q1 q2 q3)) ∧ Hid (After ⟨b, off, none⟩ g W W') := by
  have hbW : b < W.heap.size := World.block_lt_of_cell? _ _ hc
  go_enter Try.func21, Try.ntmps21
  go_wp2_with (fail)
  refine (bare_any _).mono ?_
  rintro e W1 ⟨rfl, rfl⟩
  obtain ⟨U, hU⟩ : ∃ U, U = ((((W.alloc (.cells #[.int .i64 (p0), .int .i64 (p1), .int .i64 (p2), .int .i64 (p3)] 42)).alloc (.cells #[.int .i64 (q0), .int .i64 (q1), .int .i64 (q2), .int .i64 (q3)] 42)).alloc (.cells #[.int .i64 0, .int .i64 0, .int .i64 0, .int .i64 0] 42)).alloc (.cells #[.bool false] 29)) := ⟨_, rfl⟩
  obtain ⟨pa, hpa⟩ : ∃ p, p = W.heap.size := ⟨_, rfl⟩
  obtain ⟨pb, hpb⟩ : ∃ p, p = W.heap.size + 1 := ⟨_, rfl⟩
  obtain ⟨pr, hpr⟩ : ∃ p, p = W.heap.size + 1 + 1 := ⟨_, rfl⟩
  obtain ⟨po, hpo⟩ : ∃ p, p = W.heap.size + 1 + 1 + 1 := ⟨_, rfl⟩
  have H : Hid (Ho W U ⟨b, off, none⟩ po f false [(⟨pa, 0, none⟩, .int .i64 (p0)), (⟨pa, 1, none⟩, .int .i64 (p1)), (⟨pa, 2, none⟩, .int .i64 (p2)), (⟨pa, 3, none⟩, .int .i64 (p3)), (⟨pb, 0, none⟩, .int .i64 (q0)), (⟨pb, 1, none⟩, .int .i64 (q1)), (⟨pb, 2, none⟩, .int .i64 (q2)), (⟨pb, 3, none⟩, .int .i64 (q3)), (⟨pr, 0, none⟩, .int .i64 (0)), (⟨pr, 1, none⟩, .int .i64 (0)), (⟨pr, 2, none⟩, .int .i64 (0)), (⟨pr, 3, none⟩, .int .i64 (0))]) := by
    refine ⟨by rw [hU]; exact (((((Leaves.refl _ _).alloc _).alloc _).alloc _).alloc _), by rw [hU, World.cell?_alloc_past _ _ _ (by simp; omega), World.cell?_alloc_past _ _ _ (by simp; omega), World.cell?_alloc_past _ _ _ (by simp; omega), World.cell?_alloc_past _ _ _ hbW]; exact hc, by rw [hU, ((new_after _ _).frozen (by simp; omega)), ((new_after _ _).frozen (by simp; omega)), ((new_after _ _).frozen (by simp; omega)), ((new_after _ _).frozen hbW)]; exact hf, by rw [hU, hpo]; simp [go_sem], by rw [hU, hpo]; simp [go_sem], ?_, ?_, hbW, by omega⟩
    · intro c hc
      simp only [List.mem_cons, List.not_mem_nil, or_false] at hc
      rcases hc with rfl | rfl | rfl | rfl | rfl | rfl | rfl | rfl | rfl | rfl | rfl | rfl <;> rw [hU] <;> dsimp only <;> first | (rw [hpa]; exact ⟨by simp [go_sem], by simp [go_sem]⟩) | (rw [hpb]; exact ⟨by simp [go_sem], by simp [go_sem]⟩) | (rw [hpr]; exact ⟨by simp [go_sem], by simp [go_sem]⟩)
    · intro c hc
      simp only [List.mem_cons, List.not_mem_nil, or_false] at hc
      rcases hc with rfl | rfl | rfl | rfl | rfl | rfl | rfl | rfl | rfl | rfl | rfl | rfl <;> (dsimp only) <;> omega
  rw [← hU]
  simp only [World.size_alloc]
  rw [← hpo, ← hpr, ← hpb, ← hpa]
  have zq1 : pa < pb := by omega
  have zq2 : pb < pr := by omega
  have zq3 : pr < po := by omega
  have zq0 : W.heap.size ≤ pa := by omega
  clear hU hc hf hpa hpb hpr hpo
  have k_pa_0 := (H.out.fix (⟨pa, 0, none⟩, .int .i64 (p0)) (by simp)).1
  have k_pa_1 := (H.out.fix (⟨pa, 1, none⟩, .int .i64 (p1)) (by simp)).1
  have k_pa_2 := (H.out.fix (⟨pa, 2, none⟩, .int .i64 (p2)) (by simp)).1
  have k_pa_3 := (H.out.fix (⟨pa, 3, none⟩, .int .i64 (p3)) (by simp)).1
  have k_pb_0 := (H.out.fix (⟨pb, 0, none⟩, .int .i64 (q0)) (by simp)).1
  have k_pb_1 := (H.out.fix (⟨pb, 1, none⟩, .int .i64 (q1)) (by simp)).1
  have k_pb_2 := (H.out.fix (⟨pb, 2, none⟩, .int .i64 (q2)) (by simp)).1
  have k_pb_3 := (H.out.fix (⟨pb, 3, none⟩, .int .i64 (q3)) (by simp)).1
  have l_pa := World.block_lt_of_cell? _ _ k_pa_0
  dsimp only at l_pa
  have l_pb := World.block_lt_of_cell? _ _ k_pb_0
  dsimp only at l_pb
  have ho := H.out.own
  have hof := H.out.ownf
  obtain ⟨pl, hpl⟩ : ∃ p, p = U.heap.size := ⟨_, rfl⟩
  obtain ⟨U2, hU2⟩ : ∃ X, X = U.alloc (.cells #[.int .i64 (p0), .int .i64 (p1), .int .i64 (p2), .int .i64 (p3)] 3) := ⟨_, rfl⟩
  have H2 : Hid (Ho W U2 ⟨b, off, none⟩ po f false ([(⟨pl, 0, none⟩, .int .i64 (p0)), (⟨pl, 1, none⟩, .int .i64 (p1)), (⟨pl, 2, none⟩, .int .i64 (p2)), (⟨pl, 3, none⟩, .int .i64 (p3))] ++ [(⟨pa, 0, none⟩, .int .i64 (p0)), (⟨pa, 1, none⟩, .int .i64 (p1)), (⟨pa, 2, none⟩, .int .i64 (p2)), (⟨pa, 3, none⟩, .int .i64 (p3)), (⟨pb, 0, none⟩, .int .i64 (q0)), (⟨pb, 1, none⟩, .int .i64 (q1)), (⟨pb, 2, none⟩, .int .i64 (q2)), (⟨pb, 3, none⟩, .int .i64 (q3)), (⟨pr, 0, none⟩, .int .i64 (0)), (⟨pr, 1, none⟩, .int .i64 (0)), (⟨pr, 2, none⟩, .int .i64 (0)), (⟨pr, 3, none⟩, .int .i64 (0))])) := by
    show Ho _ _ _ _ _ _ _
    rw [hU2]
    refine H.out.lay _ _ _ (fun c hc => ?_)
    simp only [List.mem_cons, List.not_mem_nil, or_false] at hc
    rcases hc with rfl | rfl | rfl | rfl
    · exact ⟨0, by rw [hpl], rfl⟩
    · exact ⟨1, by rw [hpl], rfl⟩
    · exact ⟨2, by rw [hpl], rfl⟩
    · exact ⟨3, by rw [hpl], rfl⟩
  go_wp2_with (fail)
  rw [← hU2, ← hpl]
  have H : Hid _ := H2.out
  clear hU2 hpl H2 k_pa_0 k_pa_1 k_pa_2 k_pa_3 k_pb_0 k_pb_1 k_pb_2 k_pb_3 l_pa l_pb ho hof
  refine (rsub_law po 0 false 0 q1 _ H.out.own H.out.ownf).mono ?_
  rintro e Wg1 ⟨x, g1, rfl, Sg1, A⟩
  have H : Hid _ := H.out.after A.out
  clear A
  have k_pb_0 := (H.out.fix (⟨pb, 0, none⟩, .int .i64 (q0)) (by simp)).1
  have k_pb_1 := (H.out.fix (⟨pb, 1, none⟩, .int .i64 (q1)) (by simp)).1
  have k_pb_2 := (H.out.fix (⟨pb, 2, none⟩, .int .i64 (q2)) (by simp)).1
  have k_pb_3 := (H.out.fix (⟨pb, 3, none⟩, .int .i64 (q3)) (by simp)).1
  have l_pb := World.block_lt_of_cell? _ _ k_pb_0
  dsimp only at l_pb
  have ho := H.out.own
  have hof := H.out.ownf
  go_wp2_with (fail)
  refine (rsub_law po 0 g1 0 q2 _ ho hof).mono ?_
  rintro e Wg2 ⟨y, g2, rfl, Sg2, A⟩
  have H : Hid _ := H.out.after A.out
  clear A k_pb_0 k_pb_1 k_pb_2 k_pb_3 l_pb ho hof
  have k_pb_0 := (H.out.fix (⟨pb, 0, none⟩, .int .i64 (q0)) (by simp)).1
  have k_pb_1 := (H.out.fix (⟨pb, 1, none⟩, .int .i64 (q1)) (by simp)).1
  have k_pb_2 := (H.out.fix (⟨pb, 2, none⟩, .int .i64 (q2)) (by simp)).1
  have k_pb_3 := (H.out.fix (⟨pb, 3, none⟩, .int .i64 (q3)) (by simp)).1
  have l_pb := World.block_lt_of_cell? _ _ k_pb_0
  dsimp only at l_pb
  have ho := H.out.own
  have hof := H.out.ownf
  go_wp2_with (fail)
  refine (rsub_law po 0 g2 0 q3 _ ho hof).mono ?_
  rintro e Wg3 ⟨z, g3, rfl, Sg3, A⟩
  have H : Hid _ := H.out.after A.out
  clear A k_pb_0 k_pb_1 k_pb_2 k_pb_3 l_pb ho hof
  have k_pb_0 := (H.out.fix (⟨pb, 0, none⟩, .int .i64 (q0)) (by simp)).1
  have k_pb_1 := (H.out.fix (⟨pb, 1, none⟩, .int .i64 (q1)) (by simp)).1
  have k_pb_2 := (H.out.fix (⟨pb, 2, none⟩, .int .i64 (q2)) (by simp)).1
  have k_pb_3 := (H.out.fix (⟨pb, 3, none⟩, .int .i64 (q3)) (by simp)).1
  have l_pb := World.block_lt_of_cell? _ _ k_pb_0
  dsimp only at l_pb
  have ho := H.out.own
  have hof := H.out.ownf
  go_wp2_with (fail)
  refine (rdot_law po 0 g3 [p0, p1, p2, p3] [q0, x, y, z] (some ⟨pl, 0, none⟩) (some ⟨Wg3.heap.size, 0, none⟩) 4 4 (Wg3.alloc (.cells #[.int .i64 (q0), .int .i64 (x), .int .i64 (y), .int .i64 (z)] 3)) (H.out.alloc (.cells #[.int .i64 (q0), .int .i64 (x), .int .i64 (y), .int .i64 (z)] 3)).own (H.out.alloc (.cells #[.int .i64 (q0), .int .i64 (x), .int .i64 (y), .int .i64 (z)] 3)).ownf (by simp) (by simp) (row4 ((H.out.alloc (.cells #[.int .i64 (q0), .int .i64 (x), .int .i64 (y), .int .i64 (z)] 3)).fix (⟨pl, 0, none⟩, .int .i64 (p0)) (by simp)).1 ((H.out.alloc (.cells #[.int .i64 (q0), .int .i64 (x), .int .i64 (y), .int .i64 (z)] 3)).fix (⟨pl, 1, none⟩, .int .i64 (p1)) (by simp)).1 ((H.out.alloc (.cells #[.int .i64 (q0), .int .i64 (x), .int .i64 (y), .int .i64 (z)] 3)).fix (⟨pl, 2, none⟩, .int .i64 (p2)) (by simp)).1 ((H.out.alloc (.cells #[.int .i64 (q0), .int .i64 (x), .int .i64 (y), .int .i64 (z)] 3)).fix (⟨pl, 3, none⟩, .int .i64 (p3)) (by simp)).1) (row4 (by simp [go_sem]) (by simp [go_sem]) (by simp [go_sem]) (by simp [go_sem]))).mono ?_
  rintro e Wg4 ⟨va, g4, rfl, Sg4, A⟩
  have H : Hid _ := (H.out.alloc (.cells #[.int .i64 (q0), .int .i64 (x), .int .i64 (y), .int .i64 (z)] 3)).after A.out
  clear A k_pb_0 k_pb_1 k_pb_2 k_pb_3 l_pb ho hof
  have k_pb_0 := (H.out.fix (⟨pb, 0, none⟩, .int .i64 (q0)) (by simp)).1
  have k_pb_1 := (H.out.fix (⟨pb, 1, none⟩, .int .i64 (q1)) (by simp)).1
  have k_pb_2 := (H.out.fix (⟨pb, 2, none⟩, .int .i64 (q2)) (by simp)).1
  have k_pb_3 := (H.out.fix (⟨pb, 3, none⟩, .int .i64 (q3)) (by simp)).1
  have l_pb := World.block_lt_of_cell? _ _ k_pb_0
  dsimp only at l_pb
  have ho := H.out.own
  have hof := H.out.ownf
  go_wp2_with (fail)
  refine (rdot_law po 0 g4 [p0, p1, p2, p3] [q1, q0, q3, y] (some ⟨pl, 0, none⟩) (some ⟨Wg4.heap.size, 0, none⟩) 4 4 (Wg4.alloc (.cells #[.int .i64 (q1), .int .i64 (q0), .int .i64 (q3), .int .i64 (y)] 3)) (H.out.alloc (.cells #[.int .i64 (q1), .int .i64 (q0), .int .i64 (q3), .int .i64 (y)] 3)).own (H.out.alloc (.cells #[.int .i64 (q1), .int .i64 (q0), .int .i64 (q3), .int .i64 (y)] 3)).ownf (by simp) (by simp) (row4 ((H.out.alloc (.cells #[.int .i64 (q1), .int .i64 (q0), .int .i64 (q3), .int .i64 (y)] 3)).fix (⟨pl, 0, none⟩, .int .i64 (p0)) (by simp)).1 ((H.out.alloc (.cells #[.int .i64 (q1), .int .i64 (q0), .int .i64 (q3), .int .i64 (y)] 3)).fix (⟨pl, 1, none⟩, .int .i64 (p1)) (by simp)).1 ((H.out.alloc (.cells #[.int .i64 (q1), .int .i64 (q0), .int .i64 (q3), .int .i64 (y)] 3)).fix (⟨pl, 2, none⟩, .int .i64 (p2)) (by simp)).1 ((H.out.alloc (.cells #[.int .i64 (q1), .int .i64 (q0), .int .i64 (q3), .int .i64 (y)] 3)).fix (⟨pl, 3, none⟩, .int .i64 (p3)) (by simp)).1) (row4 (by simp [go_sem]) (by simp [go_sem]) (by simp [go_sem]) (by simp [go_sem]))).mono ?_
  rintro e Wg5 ⟨vb, g5, rfl, Sg5, A⟩
  have H : Hid _ := (H.out.alloc (.cells #[.int .i64 (q1), .int .i64 (q0), .int .i64 (q3), .int .i64 (y)] 3)).after A.out
  clear A k_pb_0 k_pb_1 k_pb_2 k_pb_3 l_pb ho hof
  have k_pb_0 := (H.out.fix (⟨pb, 0, none⟩, .int .i64 (q0)) (by simp)).1
  have k_pb_1 := (H.out.fix (⟨pb, 1, none⟩, .int .i64 (q1)) (by simp)).1
  have k_pb_2 := (H.out.fix (⟨pb, 2, none⟩, .int .i64 (q2)) (by simp)).1
  have k_pb_3 := (H.out.fix (⟨pb, 3, none⟩, .int .i64 (q3)) (by simp)).1
  have l_pb := World.block_lt_of_cell? _ _ k_pb_0
  dsimp only at l_pb
  have ho := H.out.own
  have hof := H.out.ownf
  go_wp2_with (fail)
  refine (rdot_law po 0 g5 [p0, p1, p2, p3] [q2, z, q0, q1] (some ⟨pl, 0, none⟩) (some ⟨Wg5.heap.size, 0, none⟩) 4 4 (Wg5.alloc (.cells #[.int .i64 (q2), .int .i64 (z), .int .i64 (q0), .int .i64 (q1)] 3)) (H.out.alloc (.cells #[.int .i64 (q2), .int .i64 (z), .int .i64 (q0), .int .i64 (q1)] 3)).own (H.out.alloc (.cells #[.int .i64 (q2), .int .i64 (z), .int .i64 (q0), .int .i64 (q1)] 3)).ownf (by simp) (by simp) (row4 ((H.out.alloc (.cells #[.int .i64 (q2), .int .i64 (z), .int .i64 (q0), .int .i64 (q1)] 3)).fix (⟨pl, 0, none⟩, .int .i64 (p0)) (by simp)).1 ((H.out.alloc (.cells #[.int .i64 (q2), .int .i64 (z), .int .i64 (q0), .int .i64 (q1)] 3)).fix (⟨pl, 1, none⟩, .int .i64 (p1)) (by simp)).1 ((H.out.alloc (.cells #[.int .i64 (q2), .int .i64 (z), .int .i64 (q0), .int .i64 (q1)] 3)).fix (⟨pl, 2, none⟩, .int .i64 (p2)) (by simp)).1 ((H.out.alloc (.cells #[.int .i64 (q2), .int .i64 (z), .int .i64 (q0), .int .i64 (q1)] 3)).fix (⟨pl, 3, none⟩, .int .i64 (p3)) (by simp)).1) (row4 (by simp [go_sem]) (by simp [go_sem]) (by simp [go_sem]) (by simp [go_sem]))).mono ?_
  rintro e Wg6 ⟨vc, g6, rfl, Sg6, A⟩
  have H : Hid _ := (H.out.alloc (.cells #[.int .i64 (q2), .int .i64 (z), .int .i64 (q0), .int .i64 (q1)] 3)).after A.out
  clear A k_pb_0 k_pb_1 k_pb_2 k_pb_3 l_pb ho hof
  have k_pb_0 := (H.out.fix (⟨pb, 0, none⟩, .int .i64 (q0)) (by simp)).1
  have k_pb_1 := (H.out.fix (⟨pb, 1, none⟩, .int .i64 (q1)) (by simp)).1
  have k_pb_2 := (H.out.fix (⟨pb, 2, none⟩, .int .i64 (q2)) (by simp)).1
  have k_pb_3 := (H.out.fix (⟨pb, 3, none⟩, .int .i64 (q3)) (by simp)).1
  have l_pb := World.block_lt_of_cell? _ _ k_pb_0
  dsimp only at l_pb
  have ho := H.out.own
  have hof := H.out.ownf
  go_wp2_with (fail)
  refine (rdot_law po 0 g6 [p0, p1, p2, p3] [q3, q2, x, q0] (some ⟨pl, 0, none⟩) (some ⟨Wg6.heap.size, 0, none⟩) 4 4 (Wg6.alloc (.cells #[.int .i64 (q3), .int .i64 (q2), .int .i64 (x), .int .i64 (q0)] 3)) (H.out.alloc (.cells #[.int .i64 (q3), .int .i64 (q2), .int .i64 (x), .int .i64 (q0)] 3)).own (H.out.alloc (.cells #[.int .i64 (q3), .int .i64 (q2), .int .i64 (x), .int .i64 (q0)] 3)).ownf (by simp) (by simp) (row4 ((H.out.alloc (.cells #[.int .i64 (q3), .int .i64 (q2), .int .i64 (x), .int .i64 (q0)] 3)).fix (⟨pl, 0, none⟩, .int .i64 (p0)) (by simp)).1 ((H.out.alloc (.cells #[.int .i64 (q3), .int .i64 (q2), .int .i64 (x), .int .i64 (q0)] 3)).fix (⟨pl, 1, none⟩, .int .i64 (p1)) (by simp)).1 ((H.out.alloc (.cells #[.int .i64 (q3), .int .i64 (q2), .int .i64 (x), .int .i64 (q0)] 3)).fix (⟨pl, 2, none⟩, .int .i64 (p2)) (by simp)).1 ((H.out.alloc (.cells #[.int .i64 (q3), .int .i64 (q2), .int .i64 (x), .int .i64 (q0)] 3)).fix (⟨pl, 3, none⟩, .int .i64 (p3)) (by simp)).1) (row4 (by simp [go_sem]) (by simp [go_sem]) (by simp [go_sem]) (by simp [go_sem]))).mono ?_
  rintro e Wg7 ⟨vd, g7, rfl, Sg7, A⟩
  have H : Hid _ := (H.out.alloc (.cells #[.int .i64 (q3), .int .i64 (q2), .int .i64 (x), .int .i64 (q0)] 3)).after A.out
  clear A k_pb_0 k_pb_1 k_pb_2 k_pb_3 l_pb ho hof
  go_wp2_with (fail)
  refine (done_any b off po f g7 _ H.out.flag H.out.flagf H.out.own (by omega)).mono ?_
  rintro e V9 ⟨rfl, A⟩
  have rr0 := A.out.cellOf (H.out.fix (⟨pr, 0, none⟩, .int .i64 (0)) (by simp)).1 (by show pr ≠ b; omega)
  have rf0 := A.out.frozenOf (H.out.fix (⟨pr, 0, none⟩, .int .i64 (0)) (by simp)).1 (H.out.fix (⟨pr, 0, none⟩, .int .i64 (0)) (by simp)).2 (by show pr ≠ b; omega)
  have rr1 := A.out.cellOf (H.out.fix (⟨pr, 1, none⟩, .int .i64 (0)) (by simp)).1 (by show pr ≠ b; omega)
  have rf1 := A.out.frozenOf (H.out.fix (⟨pr, 1, none⟩, .int .i64 (0)) (by simp)).1 (H.out.fix (⟨pr, 1, none⟩, .int .i64 (0)) (by simp)).2 (by show pr ≠ b; omega)
  have rr2 := A.out.cellOf (H.out.fix (⟨pr, 2, none⟩, .int .i64 (0)) (by simp)).1 (by show pr ≠ b; omega)
  have rf2 := A.out.frozenOf (H.out.fix (⟨pr, 2, none⟩, .int .i64 (0)) (by simp)).1 (H.out.fix (⟨pr, 2, none⟩, .int .i64 (0)) (by simp)).2 (by show pr ≠ b; omega)
  have rr3 := A.out.cellOf (H.out.fix (⟨pr, 3, none⟩, .int .i64 (0)) (by simp)).1 (by show pr ≠ b; omega)
  have rf3 := A.out.frozenOf (H.out.fix (⟨pr, 3, none⟩, .int .i64 (0)) (by simp)).1 (H.out.fix (⟨pr, 3, none⟩, .int .i64 (0)) (by simp)).2 (by show pr ≠ b; omega)
  have HL : Hid (Leaves ⟨b, off, none⟩ W V9) := H.out.leaves.same A.out
  have hp := A.out.cell
  have hpf := A.out.frozen
  have n1 : b ≠ pr := by omega
  have n2 : pr ≠ b := by omega
  have hWr : W.heap.size ≤ pr := by omega
  have HS : Hid _ := times_chain (f := f) Sg1.out Sg2.out Sg3.out Sg4.out Sg5.out Sg6.out Sg7.out
  clear A H 
  cases g7 with
  | true =>
    go_wp2_with (fail)
    refine bodyPost_ret (by simp [results, Try.results21, go_sem, rr0, rr1, rr2, rr3]; try rfl) rfl ?_
    refine ⟨0, 0, 0, 0, _, rfl, HS.out, ((((HL.out.set hWr _).set hWr _).set hWr _).set hWr _).done ?_ ?_⟩
    · simp [go_sem, hp]
    · simp [go_sem, hpf]
  | false =>
    go_wp2_with (fail)
    refine bodyPost_ret (by simp [results, Try.results21, go_sem, rr0, rr1, rr2, rr3]; try rfl) rfl ?_
    refine ⟨_, _, _, _, _, rfl, HS.out, ((((HL.out.set hWr _).set hWr _).set hWr _).set hWr _).done ?_ ?_⟩
    · simp [go_sem, hp]
    · simp [go_sem, hpf]


end Go.Proofs.Ytioailboehpcaaa
