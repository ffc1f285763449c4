/- The reference's matrices of turns. -/
import Derived.Test.YtfalniafkambmaaBNS11
import Derived.Test.YtfalniafkambmaaBNS2
import Derived.Deep.CutBlock
namespace Go.Proofs.Ytfalniafkambmaa
open Go.RowKit Ref Fx
set_option linter.unusedVariables false

theorem row2 {w : World} {b : Nat} {x y : Int} (h0 : w.cell? ⟨b, 0, none⟩ = some (.int .i64 x)) (h1 : w.cell? ⟨b, 1, none⟩ = some (.int .i64 y)) : NRow w (some ⟨b, 0, none⟩) [x, y] :=
  Or.inr ⟨b, 0, rfl, fun k hk => by
    match k, hk with
    | 0, _ => exact h0
    | 1, _ => exact h1⟩
theorem Ho.put {W V : World} {p a : Addr} {po : Nat} {f g : Bool} {l1 l2 : List (Addr × Value)} {u v : Value} (h : Ho W V p po f g (l1 ++ (a, u) :: l2)) (hne : ∀ c ∈ l1 ++ l2, c.1 ≠ a) (ha : W.heap.size ≤ a.block) (hpo : a.block ≠ po) (hap : a.block ≠ p.block) : Ho W (V.setCell a v) p po f g (l1 ++ (a, v) :: l2) := by
  have far : ∀ q : Addr, q.block ≠ a.block → (V.setCell a v).cell? q = V.cell? q := fun q hq => World.cell?_of_block (w := V) (Below.heap_setCell V a v q.block hq)
  have hmem : ∀ c, c ∈ l1 ++ (a, v) :: l2 → c = (a, v) ∨ c ∈ l1 ++ l2 := fun c hc => by
    simp only [List.mem_append, List.mem_cons] at hc ⊢
    rcases hc with h | h | h
    · exact Or.inr (Or.inl h)
    · exact Or.inl h
    · exact Or.inr (Or.inr h)
  have hold : ∀ c, c ∈ l1 ++ l2 → c ∈ l1 ++ (a, u) :: l2 := fun c hc => by
    simp only [List.mem_append, List.mem_cons] at hc ⊢
    rcases hc with h | h
    · exact Or.inl h
    · exact Or.inr (Or.inr h)
  have ha0 := h.fix (a, u) (by simp)
  refine ⟨h.leaves.set ha v, (far p (Ne.symm hap)).trans h.flag, by rw [World.frozen?_setCell]; exact h.flagf, (far _ (Ne.symm hpo)).trans h.own, by rw [World.frozen?_setCell]; exact h.ownf, fun c hc => ?_, fun c hc => ?_, h.hp, h.ho⟩
  · rcases hmem c hc with rfl | hc
    · exact ⟨World.cell?_setCell_same' _ _ _ (by rw [ha0.1]; rfl), by rw [World.frozen?_setCell]; exact ha0.2⟩
    · exact ⟨by rw [World.cell?_setCell_other _ _ _ _ (Ne.symm (hne c hc))]; exact (h.fix c (hold c hc)).1, by rw [World.frozen?_setCell]; exact (h.fix c (hold c hc)).2⟩
  · rcases hmem c hc with rfl | hc
    · exact hpo
    · exact h.far c (hold c hc)
theorem sub_add_none {q : Int} (h : (sub 0 q).isNone = true) : (add q q).isNone = true := by
  rcases neg_is q with ⟨_, a, _⟩ | ⟨a, _, _⟩
  · simp [add, a]
  · rw [a] at h; cases h
theorem rows_chain {f g1 g2 g3 g4 g5 g6 g7 g8 g9 g10 g11 g12 g13 g14 g15 g16 g17 g18 g19 : Bool} {q0 q1 q2 q3 t0 t1 t2 t3 n1 n2 n3 d0 s0 d1 d2 d3 d4 s4 d5 d6 d7 d8 s8 : Int} (h1 : Step false (add q0 q0) t0 g1) (h2 : Step g1 (add q1 q1) t1 g2) (h3 : Step g2 (add q2 q2) t2 g3) (h4 : Step g3 (add q3 q3) t3 g4) (h5 : Step g4 (sub 0 q1) n1 g5) (h6 : Step g5 (sub 0 q2) n2 g6) (h7 : Step g6 (sub 0 q3) n3 g7) (h8 : Step g7 (dot [t2, t3] [q2, q3]) d0 g8) (h9 : Step g8 (sub 4294967296 d0) s0 g9) (h10 : Step g9 (dot [t1, t0] [q2, n3]) d1 g10) (h11 : Step g10 (dot [t1, t0] [q3, q2]) d2 g11) (h12 : Step g11 (dot [t1, t0] [q2, q3]) d3 g12) (h13 : Step g12 (dot [t1, t3] [q1, q3]) d4 g13) (h14 : Step g13 (sub 4294967296 d4) s4 g14) (h15 : Step g14 (dot [t2, t0] [q3, n1]) d5 g15) (h16 : Step g15 (dot [t1, t0] [q3, n2]) d6 g16) (h17 : Step g16 (dot [t2, t0] [q3, q1]) d7 g17) (h18 : Step g17 (dot [t1, t2] [q1, q2]) d8 g18) (h19 : Step g18 (sub 4294967296 d8) s8 g19) :
    cond g19 0 s0 = cond (rowsBad q0 q1 q2 q3) 0 (rowsAt0 q0 q1 q2 q3) ∧ cond g19 0 d1 = cond (rowsBad q0 q1 q2 q3) 0 (rowsAt1 q0 q1 q2 q3) ∧ cond g19 0 d2 = cond (rowsBad q0 q1 q2 q3) 0 (rowsAt2 q0 q1 q2 q3) ∧ cond g19 0 d3 = cond (rowsBad q0 q1 q2 q3) 0 (rowsAt3 q0 q1 q2 q3) ∧ cond g19 0 s4 = cond (rowsBad q0 q1 q2 q3) 0 (rowsAt4 q0 q1 q2 q3) ∧ cond g19 0 d5 = cond (rowsBad q0 q1 q2 q3) 0 (rowsAt5 q0 q1 q2 q3) ∧ cond g19 0 d6 = cond (rowsBad q0 q1 q2 q3) 0 (rowsAt6 q0 q1 q2 q3) ∧ cond g19 0 d7 = cond (rowsBad q0 q1 q2 q3) 0 (rowsAt7 q0 q1 q2 q3) ∧ cond g19 0 s8 = cond (rowsBad q0 q1 q2 q3) 0 (rowsAt8 q0 q1 q2 q3) ∧ (f || g19) = (f || rowsBad q0 q1 q2 q3) := by
  obtain ⟨rfl, e1⟩ := h1
  obtain ⟨rfl, e2⟩ := h2
  obtain ⟨rfl, e3⟩ := h3
  obtain ⟨rfl, e4⟩ := h4
  obtain ⟨rfl, e5⟩ := h5
  obtain ⟨rfl, e6⟩ := h6
  obtain ⟨rfl, e7⟩ := h7
  obtain ⟨rfl, e8⟩ := h8
  obtain ⟨rfl, e9⟩ := h9
  obtain ⟨rfl, e10⟩ := h10
  obtain ⟨rfl, e11⟩ := h11
  obtain ⟨rfl, e12⟩ := h12
  obtain ⟨rfl, e13⟩ := h13
  obtain ⟨rfl, e14⟩ := h14
  obtain ⟨rfl, e15⟩ := h15
  obtain ⟨rfl, e16⟩ := h16
  obtain ⟨rfl, e17⟩ := h17
  obtain ⟨rfl, e18⟩ := h18
  obtain ⟨rfl, e19⟩ := h19
  have hb : g19 = rowsBad q0 q1 q2 q3 := by
    rw [e19, e18, e17, e16, e15, e14, e13, e12, e11, e10, e9, e8, e7, e6, e5, e4, e3, e2, e1]
    unfold rowsBad
    simp only [List.any_cons, List.any_nil, id_eq, Bool.or_false, Bool.false_or]
    cases hs : (sub 0 q0).isNone with
    | true =>
      rw [sub_add_none hs]
      simp
    | false =>
      simp only [Bool.false_or]
      ac_rfl
  rw [hb]
  exact ⟨rfl, rfl, rfl, rfl, rfl, rfl, rfl, rfl, rfl, rfl⟩
set_option maxRecDepth 100000 in
set_option maxHeartbeats 4000000 in
theorem rvrows_law (b off : Nat) (f : Bool) (q0 q1 q2 q3 : Int) (W : World) (hc : W.cell? ⟨b, off, none⟩ = some (.bool f)) (hf : W.frozen? ⟨b, off, none⟩ = false) :
    Calls Try.prog 37 #[.pointer (some ⟨b, off, none⟩), .agg #[.int .i64 (q0), .int .i64 (q1), .int .i64 (q2), .int .i64 (q3)]] W fun e W' => e = .returned (.agg #[.int .i64 (cond (rowsBad q0 q1 q2 q3) 0 (rowsAt0 q0 q1 q2 q3)), .int .i64 (cond (rowsBad q0 q1 q2 q3) 0 (rowsAt1 q0 q1 q2 q3)), .int .i64 (cond (rowsBad q0 q1 q2 q3) 0 (rowsAt2 q0 q1 q2 q3)), .int .i64 (cond (rowsBad q0 q1 q2 q3) 0 (rowsAt3 q0 q1 q2 q3)), .int .i64 (cond (rowsBad q0 q1 q2 q3) 0 (rowsAt4 q0 q1 q2 q3)), .int .i64 (cond (rowsBad q0 q1 q2 q3) 0 (rowsAt5 q0 q1 q2 q3)), .int .i64 (cond (rowsBad q0 q1 q2 q3) 0 (rowsAt6 q0 q1 q2 q3)), .int .i64 (cond (rowsBad q0 q1 q2 q3) 0 (rowsAt7 q0 q1 q2 q3)), .int .i64 (cond (rowsBad q0 q1 q2 q3) 0 (rowsAt8 q0 q1 q2 q3))]) ∧ Hid (After ⟨b, off, none⟩ (f || rowsBad q0 q1 q2 q3) W W') := by
  have hbW : b < W.heap.size := World.block_lt_of_cell? _ _ hc
  go_enter Try.func37, Try.ntmps37
  go_wp2_with (fail)
  refine (rvbare_any _).mono ?_
  rintro e W1 ⟨rfl, rfl⟩
  obtain ⟨U, hU⟩ : ∃ U, U = (((W.alloc (.cells #[.int .i64 (q0), .int .i64 (q1), .int .i64 (q2), .int .i64 (q3)] 29)).alloc (.cells #[.int .i64 0, .int .i64 0, .int .i64 0, .int .i64 0, .int .i64 0, .int .i64 0, .int .i64 0, .int .i64 0, .int .i64 0] 80)).alloc (.cells #[.bool false] 77)) := ⟨_, rfl⟩
  obtain ⟨pa, hpa⟩ : ∃ p, p = W.heap.size := ⟨_, rfl⟩
  obtain ⟨pr, hpr⟩ : ∃ p, p = W.heap.size + 1 := ⟨_, rfl⟩
  obtain ⟨po, hpo⟩ : ∃ p, p = W.heap.size + 1 + 1 := ⟨_, rfl⟩
  have H : Hid (Ho W U ⟨b, off, none⟩ po f false [(⟨pa, 0, none⟩, .int .i64 (q0)), (⟨pa, 1, none⟩, .int .i64 (q1)), (⟨pa, 2, none⟩, .int .i64 (q2)), (⟨pa, 3, none⟩, .int .i64 (q3)), (⟨pr, 0, none⟩, .int .i64 (0)), (⟨pr, 1, none⟩, .int .i64 (0)), (⟨pr, 2, none⟩, .int .i64 (0)), (⟨pr, 3, none⟩, .int .i64 (0)), (⟨pr, 4, none⟩, .int .i64 (0)), (⟨pr, 5, none⟩, .int .i64 (0)), (⟨pr, 6, none⟩, .int .i64 (0)), (⟨pr, 7, none⟩, .int .i64 (0)), (⟨pr, 8, none⟩, .int .i64 (0))]) := by
    refine ⟨by rw [hU]; exact ((((Leaves.refl _ _).alloc _).alloc _).alloc _), by rw [hU, World.cell?_alloc_past _ _ _ (by simp; omega), World.cell?_alloc_past _ _ _ (by simp; omega), World.cell?_alloc_past _ _ _ hbW]; exact hc, by rw [hU, ((new_after _ _).frozen (by simp; omega)), ((new_after _ _).frozen (by simp; omega)), ((new_after _ _).frozen hbW)]; exact hf, by rw [hU, hpo]; simp [go_sem], by rw [hU, hpo]; simp [go_sem], ?_, ?_, hbW, by omega⟩
    · intro c hc
      simp only [List.mem_cons, List.not_mem_nil, or_false] at hc
      rcases hc with rfl | rfl | rfl | rfl | rfl | rfl | rfl | rfl | rfl | rfl | rfl | rfl | rfl <;> rw [hU] <;> dsimp only <;> first | (rw [hpa]; exact ⟨by simp [go_sem], by simp [go_sem]⟩) | (rw [hpr]; exact ⟨by simp [go_sem], by simp [go_sem]⟩)
    · intro c hc
      simp only [List.mem_cons, List.not_mem_nil, or_false] at hc
      rcases hc with rfl | rfl | rfl | rfl | rfl | rfl | rfl | rfl | rfl | rfl | rfl | rfl | rfl <;> (dsimp only) <;> omega
  rw [← hU]
  simp only [World.size_alloc]
  rw [← hpo, ← hpr, ← hpa]
  have zq1 : pa < pr := by omega
  have zq2 : pr < po := by omega
  have zq0 : W.heap.size ≤ pa := by omega
  clear hU hc hf hpa hpr hpo
  have k_pa_0 := (H.out.fix (⟨pa, 0, none⟩, .int .i64 (q0)) (by simp)).1
  have k_pa_1 := (H.out.fix (⟨pa, 1, none⟩, .int .i64 (q1)) (by simp)).1
  have k_pa_2 := (H.out.fix (⟨pa, 2, none⟩, .int .i64 (q2)) (by simp)).1
  have k_pa_3 := (H.out.fix (⟨pa, 3, none⟩, .int .i64 (q3)) (by simp)).1
  have l_pa := World.block_lt_of_cell? _ _ k_pa_0
  dsimp only at l_pa
  have ho := H.out.own
  have hof := H.out.ownf
  go_wp2_with (fail)
  refine (radd_law po 0 false q0 q0 _ ho hof).mono ?_
  rintro e Wg1 ⟨t0, g1, rfl, Sg1, A⟩
  have H : Hid _ := H.out.after A.out
  clear A k_pa_0 k_pa_1 k_pa_2 k_pa_3 l_pa ho hof
  have k_pa_0 := (H.out.fix (⟨pa, 0, none⟩, .int .i64 (q0)) (by simp)).1
  have k_pa_1 := (H.out.fix (⟨pa, 1, none⟩, .int .i64 (q1)) (by simp)).1
  have k_pa_2 := (H.out.fix (⟨pa, 2, none⟩, .int .i64 (q2)) (by simp)).1
  have k_pa_3 := (H.out.fix (⟨pa, 3, none⟩, .int .i64 (q3)) (by simp)).1
  have l_pa := World.block_lt_of_cell? _ _ k_pa_0
  dsimp only at l_pa
  have ho := H.out.own
  have hof := H.out.ownf
  go_wp2_with (fail)
  refine (radd_law po 0 g1 q1 q1 _ ho hof).mono ?_
  rintro e Wg2 ⟨t1, g2, rfl, Sg2, A⟩
  have H : Hid _ := H.out.after A.out
  clear A k_pa_0 k_pa_1 k_pa_2 k_pa_3 l_pa ho hof
  have k_pa_0 := (H.out.fix (⟨pa, 0, none⟩, .int .i64 (q0)) (by simp)).1
  have k_pa_1 := (H.out.fix (⟨pa, 1, none⟩, .int .i64 (q1)) (by simp)).1
  have k_pa_2 := (H.out.fix (⟨pa, 2, none⟩, .int .i64 (q2)) (by simp)).1
  have k_pa_3 := (H.out.fix (⟨pa, 3, none⟩, .int .i64 (q3)) (by simp)).1
  have l_pa := World.block_lt_of_cell? _ _ k_pa_0
  dsimp only at l_pa
  have ho := H.out.own
  have hof := H.out.ownf
  go_wp2_with (fail)
  refine (radd_law po 0 g2 q2 q2 _ ho hof).mono ?_
  rintro e Wg3 ⟨t2, g3, rfl, Sg3, A⟩
  have H : Hid _ := H.out.after A.out
  clear A k_pa_0 k_pa_1 k_pa_2 k_pa_3 l_pa ho hof
  have k_pa_0 := (H.out.fix (⟨pa, 0, none⟩, .int .i64 (q0)) (by simp)).1
  have k_pa_1 := (H.out.fix (⟨pa, 1, none⟩, .int .i64 (q1)) (by simp)).1
  have k_pa_2 := (H.out.fix (⟨pa, 2, none⟩, .int .i64 (q2)) (by simp)).1
  have k_pa_3 := (H.out.fix (⟨pa, 3, none⟩, .int .i64 (q3)) (by simp)).1
  have l_pa := World.block_lt_of_cell? _ _ k_pa_0
  dsimp only at l_pa
  have ho := H.out.own
  have hof := H.out.ownf
  go_wp2_with (fail)
  refine (radd_law po 0 g3 q3 q3 _ ho hof).mono ?_
  rintro e Wg4 ⟨t3, g4, rfl, Sg4, A⟩
  have H : Hid _ := H.out.after A.out
  clear A k_pa_0 k_pa_1 k_pa_2 k_pa_3 l_pa ho hof
  have k_pa_0 := (H.out.fix (⟨pa, 0, none⟩, .int .i64 (q0)) (by simp)).1
  have k_pa_1 := (H.out.fix (⟨pa, 1, none⟩, .int .i64 (q1)) (by simp)).1
  have k_pa_2 := (H.out.fix (⟨pa, 2, none⟩, .int .i64 (q2)) (by simp)).1
  have k_pa_3 := (H.out.fix (⟨pa, 3, none⟩, .int .i64 (q3)) (by simp)).1
  have l_pa := World.block_lt_of_cell? _ _ k_pa_0
  dsimp only at l_pa
  have ho := H.out.own
  have hof := H.out.ownf
  go_wp2_with (fail)
  refine (rsub_law po 0 g4 0 q1 _ ho hof).mono ?_
  rintro e Wg5 ⟨n1, g5, rfl, Sg5, A⟩
  have H : Hid _ := H.out.after A.out
  clear A k_pa_0 k_pa_1 k_pa_2 k_pa_3 l_pa ho hof
  have k_pa_0 := (H.out.fix (⟨pa, 0, none⟩, .int .i64 (q0)) (by simp)).1
  have k_pa_1 := (H.out.fix (⟨pa, 1, none⟩, .int .i64 (q1)) (by simp)).1
  have k_pa_2 := (H.out.fix (⟨pa, 2, none⟩, .int .i64 (q2)) (by simp)).1
  have k_pa_3 := (H.out.fix (⟨pa, 3, none⟩, .int .i64 (q3)) (by simp)).1
  have l_pa := World.block_lt_of_cell? _ _ k_pa_0
  dsimp only at l_pa
  have ho := H.out.own
  have hof := H.out.ownf
  go_wp2_with (fail)
  refine (rsub_law po 0 g5 0 q2 _ ho hof).mono ?_
  rintro e Wg6 ⟨n2, g6, rfl, Sg6, A⟩
  have H : Hid _ := H.out.after A.out
  clear A k_pa_0 k_pa_1 k_pa_2 k_pa_3 l_pa ho hof
  have k_pa_0 := (H.out.fix (⟨pa, 0, none⟩, .int .i64 (q0)) (by simp)).1
  have k_pa_1 := (H.out.fix (⟨pa, 1, none⟩, .int .i64 (q1)) (by simp)).1
  have k_pa_2 := (H.out.fix (⟨pa, 2, none⟩, .int .i64 (q2)) (by simp)).1
  have k_pa_3 := (H.out.fix (⟨pa, 3, none⟩, .int .i64 (q3)) (by simp)).1
  have l_pa := World.block_lt_of_cell? _ _ k_pa_0
  dsimp only at l_pa
  have ho := H.out.own
  have hof := H.out.ownf
  go_wp2_with (fail)
  refine (rsub_law po 0 g6 0 q3 _ ho hof).mono ?_
  rintro e Wg7 ⟨n3, g7, rfl, Sg7, A⟩
  have H : Hid _ := H.out.after A.out
  clear A k_pa_0 k_pa_1 k_pa_2 k_pa_3 l_pa ho hof
  go_upto_region 10 with fail
  obtain ⟨pm, hpm⟩ : ∃ p, p = Wg7.heap.size := ⟨_, rfl⟩
  obtain ⟨Y0, hY0⟩ : ∃ X, X = Wg7.alloc (.cells #[.int .i64 0, .int .i64 0, .int .i64 0, .int .i64 0, .int .i64 0, .int .i64 0, .int .i64 0, .int .i64 0, .int .i64 0] 80) := ⟨_, rfl⟩
  have H2 : Hid (Ho W Y0 ⟨b, off, none⟩ po f g7 ([(⟨pm, 0, none⟩, .int .i64 (0)), (⟨pm, 1, none⟩, .int .i64 (0)), (⟨pm, 2, none⟩, .int .i64 (0)), (⟨pm, 3, none⟩, .int .i64 (0)), (⟨pm, 4, none⟩, .int .i64 (0)), (⟨pm, 5, none⟩, .int .i64 (0)), (⟨pm, 6, none⟩, .int .i64 (0)), (⟨pm, 7, none⟩, .int .i64 (0)), (⟨pm, 8, none⟩, .int .i64 (0))] ++ [(⟨pa, 0, none⟩, .int .i64 (q0)), (⟨pa, 1, none⟩, .int .i64 (q1)), (⟨pa, 2, none⟩, .int .i64 (q2)), (⟨pa, 3, none⟩, .int .i64 (q3)), (⟨pr, 0, none⟩, .int .i64 (0)), (⟨pr, 1, none⟩, .int .i64 (0)), (⟨pr, 2, none⟩, .int .i64 (0)), (⟨pr, 3, none⟩, .int .i64 (0)), (⟨pr, 4, none⟩, .int .i64 (0)), (⟨pr, 5, none⟩, .int .i64 (0)), (⟨pr, 6, none⟩, .int .i64 (0)), (⟨pr, 7, none⟩, .int .i64 (0)), (⟨pr, 8, none⟩, .int .i64 (0))])) := by
    show Ho _ _ _ _ _ _ _
    rw [hY0]
    refine H.out.lay _ _ _ (fun c hc => ?_)
    simp only [List.mem_cons, List.not_mem_nil, or_false] at hc
    rcases hc with rfl | rfl | rfl | rfl | rfl | rfl | rfl | rfl | rfl
    · exact ⟨0, by rw [hpm], rfl⟩
    · exact ⟨1, by rw [hpm], rfl⟩
    · exact ⟨2, by rw [hpm], rfl⟩
    · exact ⟨3, by rw [hpm], rfl⟩
    · exact ⟨4, by rw [hpm], rfl⟩
    · exact ⟨5, by rw [hpm], rfl⟩
    · exact ⟨6, by rw [hpm], rfl⟩
    · exact ⟨7, by rw [hpm], rfl⟩
    · exact ⟨8, by rw [hpm], rfl⟩
  have zm1 : po < pm := by rw [hpm]; exact World.block_lt_of_cell? _ _ H.out.own
  rw [← hY0, ← hpm]
  have H : Hid _ := H2.out
  clear hY0 hpm H2
  have k_pa_0 := (H.out.fix (⟨pa, 0, none⟩, .int .i64 (q0)) (by simp)).1
  have k_pa_1 := (H.out.fix (⟨pa, 1, none⟩, .int .i64 (q1)) (by simp)).1
  have k_pa_2 := (H.out.fix (⟨pa, 2, none⟩, .int .i64 (q2)) (by simp)).1
  have k_pa_3 := (H.out.fix (⟨pa, 3, none⟩, .int .i64 (q3)) (by simp)).1
  have l_pa := World.block_lt_of_cell? _ _ k_pa_0
  dsimp only at l_pa
  have ho := H.out.own
  have hof := H.out.ownf
  go_wp2_with (fail)
  refine (rdot_law po 0 g7 [t2, t3] [q2, q3] (some ⟨Y0.heap.size, 0, none⟩) (some ⟨Y0.heap.size + 1, 0, none⟩) 2 2 ((Y0.alloc (.cells #[.int .i64 (t2), .int .i64 (t3)] 3)).alloc (.cells #[.int .i64 (q2), .int .i64 (q3)] 3)) ((H.out.alloc (.cells #[.int .i64 (t2), .int .i64 (t3)] 3)).alloc (.cells #[.int .i64 (q2), .int .i64 (q3)] 3)).own ((H.out.alloc (.cells #[.int .i64 (t2), .int .i64 (t3)] 3)).alloc (.cells #[.int .i64 (q2), .int .i64 (q3)] 3)).ownf (by simp) (by simp) (row2 (by simp [go_sem]) (by simp [go_sem])) (row2 (by simp [go_sem]) (by simp [go_sem]))).mono ?_
  rintro e Wg8 ⟨d0, g8, rfl, Sg8, A⟩
  have H : Hid _ := ((H.out.alloc (.cells #[.int .i64 (t2), .int .i64 (t3)] 3)).alloc (.cells #[.int .i64 (q2), .int .i64 (q3)] 3)).after A.out
  clear A k_pa_0 k_pa_1 k_pa_2 k_pa_3 l_pa ho hof
  go_wp2_with (fail)
  refine (rsub_law po 0 g8 4294967296 d0 _ H.out.own H.out.ownf).mono ?_
  rintro e Wg9 ⟨s0, g9, rfl, Sg9, A⟩
  have H : Hid _ := H.out.after A.out
  clear A
  have rk := (H.out.fix (⟨pm, 0, none⟩, .int .i64 (0)) (by simp)).1
  have rkf := (H.out.fix (⟨pm, 0, none⟩, .int .i64 (0)) (by simp)).2
  go_upto_region 11 with fail
  obtain ⟨Y1, hY1⟩ : ∃ X, X = Wg9.setCell ⟨pm, 0, none⟩ (.int .i64 (s0)) := ⟨_, rfl⟩
  have H2 : Hid (Ho W Y1 ⟨b, off, none⟩ po f g9 ([(⟨pm, 0, none⟩, .int .i64 (s0)), (⟨pm, 1, none⟩, .int .i64 (0)), (⟨pm, 2, none⟩, .int .i64 (0)), (⟨pm, 3, none⟩, .int .i64 (0)), (⟨pm, 4, none⟩, .int .i64 (0)), (⟨pm, 5, none⟩, .int .i64 (0)), (⟨pm, 6, none⟩, .int .i64 (0)), (⟨pm, 7, none⟩, .int .i64 (0)), (⟨pm, 8, none⟩, .int .i64 (0))] ++ [(⟨pa, 0, none⟩, .int .i64 (q0)), (⟨pa, 1, none⟩, .int .i64 (q1)), (⟨pa, 2, none⟩, .int .i64 (q2)), (⟨pa, 3, none⟩, .int .i64 (q3)), (⟨pr, 0, none⟩, .int .i64 (0)), (⟨pr, 1, none⟩, .int .i64 (0)), (⟨pr, 2, none⟩, .int .i64 (0)), (⟨pr, 3, none⟩, .int .i64 (0)), (⟨pr, 4, none⟩, .int .i64 (0)), (⟨pr, 5, none⟩, .int .i64 (0)), (⟨pr, 6, none⟩, .int .i64 (0)), (⟨pr, 7, none⟩, .int .i64 (0)), (⟨pr, 8, none⟩, .int .i64 (0))])) := by
    show Ho _ _ _ _ _ _ _
    rw [hY1]
    exact Ho.put (l1 := []) (l2 := [(⟨pm, 1, none⟩, .int .i64 (0)), (⟨pm, 2, none⟩, .int .i64 (0)), (⟨pm, 3, none⟩, .int .i64 (0)), (⟨pm, 4, none⟩, .int .i64 (0)), (⟨pm, 5, none⟩, .int .i64 (0)), (⟨pm, 6, none⟩, .int .i64 (0)), (⟨pm, 7, none⟩, .int .i64 (0)), (⟨pm, 8, none⟩, .int .i64 (0))] ++ [(⟨pa, 0, none⟩, .int .i64 (q0)), (⟨pa, 1, none⟩, .int .i64 (q1)), (⟨pa, 2, none⟩, .int .i64 (q2)), (⟨pa, 3, none⟩, .int .i64 (q3)), (⟨pr, 0, none⟩, .int .i64 (0)), (⟨pr, 1, none⟩, .int .i64 (0)), (⟨pr, 2, none⟩, .int .i64 (0)), (⟨pr, 3, none⟩, .int .i64 (0)), (⟨pr, 4, none⟩, .int .i64 (0)), (⟨pr, 5, none⟩, .int .i64 (0)), (⟨pr, 6, none⟩, .int .i64 (0)), (⟨pr, 7, none⟩, .int .i64 (0)), (⟨pr, 8, none⟩, .int .i64 (0))]) H.out (fun c hc => by
      simp only [List.cons_append, List.nil_append, List.mem_cons, List.not_mem_nil, or_false] at hc
      rcases hc with rfl | rfl | rfl | rfl | rfl | rfl | rfl | rfl | rfl | rfl | rfl | rfl | rfl | rfl | rfl | rfl | rfl | rfl | rfl | rfl | rfl <;> (simp only [ne_eq, Addr.mk.injEq, not_and]; omega)) (by show W.heap.size ≤ pm; omega) (by show pm ≠ po; omega) (by show pm ≠ b; omega)
  rw [← hY1]
  have H : Hid _ := H2.out
  clear hY1 H2 rk rkf
  have k_pa_0 := (H.out.fix (⟨pa, 0, none⟩, .int .i64 (q0)) (by simp)).1
  have k_pa_1 := (H.out.fix (⟨pa, 1, none⟩, .int .i64 (q1)) (by simp)).1
  have k_pa_2 := (H.out.fix (⟨pa, 2, none⟩, .int .i64 (q2)) (by simp)).1
  have k_pa_3 := (H.out.fix (⟨pa, 3, none⟩, .int .i64 (q3)) (by simp)).1
  have l_pa := World.block_lt_of_cell? _ _ k_pa_0
  dsimp only at l_pa
  have ho := H.out.own
  have hof := H.out.ownf
  go_wp2_with (fail)
  refine (rdot_law po 0 g9 [t1, t0] [q2, n3] (some ⟨Y1.heap.size, 0, none⟩) (some ⟨Y1.heap.size + 1, 0, none⟩) 2 2 ((Y1.alloc (.cells #[.int .i64 (t1), .int .i64 (t0)] 3)).alloc (.cells #[.int .i64 (q2), .int .i64 (n3)] 3)) ((H.out.alloc (.cells #[.int .i64 (t1), .int .i64 (t0)] 3)).alloc (.cells #[.int .i64 (q2), .int .i64 (n3)] 3)).own ((H.out.alloc (.cells #[.int .i64 (t1), .int .i64 (t0)] 3)).alloc (.cells #[.int .i64 (q2), .int .i64 (n3)] 3)).ownf (by simp) (by simp) (row2 (by simp [go_sem]) (by simp [go_sem])) (row2 (by simp [go_sem]) (by simp [go_sem]))).mono ?_
  rintro e Wg10 ⟨d1, g10, rfl, Sg10, A⟩
  have H : Hid _ := ((H.out.alloc (.cells #[.int .i64 (t1), .int .i64 (t0)] 3)).alloc (.cells #[.int .i64 (q2), .int .i64 (n3)] 3)).after A.out
  clear A k_pa_0 k_pa_1 k_pa_2 k_pa_3 l_pa ho hof
  have rk := (H.out.fix (⟨pm, 1, none⟩, .int .i64 (0)) (by simp)).1
  have rkf := (H.out.fix (⟨pm, 1, none⟩, .int .i64 (0)) (by simp)).2
  go_upto_region 12 with fail
  obtain ⟨Y2, hY2⟩ : ∃ X, X = Wg10.setCell ⟨pm, 1, none⟩ (.int .i64 (d1)) := ⟨_, rfl⟩
  have H2 : Hid (Ho W Y2 ⟨b, off, none⟩ po f g10 ([(⟨pm, 0, none⟩, .int .i64 (s0)), (⟨pm, 1, none⟩, .int .i64 (d1)), (⟨pm, 2, none⟩, .int .i64 (0)), (⟨pm, 3, none⟩, .int .i64 (0)), (⟨pm, 4, none⟩, .int .i64 (0)), (⟨pm, 5, none⟩, .int .i64 (0)), (⟨pm, 6, none⟩, .int .i64 (0)), (⟨pm, 7, none⟩, .int .i64 (0)), (⟨pm, 8, none⟩, .int .i64 (0))] ++ [(⟨pa, 0, none⟩, .int .i64 (q0)), (⟨pa, 1, none⟩, .int .i64 (q1)), (⟨pa, 2, none⟩, .int .i64 (q2)), (⟨pa, 3, none⟩, .int .i64 (q3)), (⟨pr, 0, none⟩, .int .i64 (0)), (⟨pr, 1, none⟩, .int .i64 (0)), (⟨pr, 2, none⟩, .int .i64 (0)), (⟨pr, 3, none⟩, .int .i64 (0)), (⟨pr, 4, none⟩, .int .i64 (0)), (⟨pr, 5, none⟩, .int .i64 (0)), (⟨pr, 6, none⟩, .int .i64 (0)), (⟨pr, 7, none⟩, .int .i64 (0)), (⟨pr, 8, none⟩, .int .i64 (0))])) := by
    show Ho _ _ _ _ _ _ _
    rw [hY2]
    exact Ho.put (l1 := [(⟨pm, 0, none⟩, .int .i64 (s0))]) (l2 := [(⟨pm, 2, none⟩, .int .i64 (0)), (⟨pm, 3, none⟩, .int .i64 (0)), (⟨pm, 4, none⟩, .int .i64 (0)), (⟨pm, 5, none⟩, .int .i64 (0)), (⟨pm, 6, none⟩, .int .i64 (0)), (⟨pm, 7, none⟩, .int .i64 (0)), (⟨pm, 8, none⟩, .int .i64 (0))] ++ [(⟨pa, 0, none⟩, .int .i64 (q0)), (⟨pa, 1, none⟩, .int .i64 (q1)), (⟨pa, 2, none⟩, .int .i64 (q2)), (⟨pa, 3, none⟩, .int .i64 (q3)), (⟨pr, 0, none⟩, .int .i64 (0)), (⟨pr, 1, none⟩, .int .i64 (0)), (⟨pr, 2, none⟩, .int .i64 (0)), (⟨pr, 3, none⟩, .int .i64 (0)), (⟨pr, 4, none⟩, .int .i64 (0)), (⟨pr, 5, none⟩, .int .i64 (0)), (⟨pr, 6, none⟩, .int .i64 (0)), (⟨pr, 7, none⟩, .int .i64 (0)), (⟨pr, 8, none⟩, .int .i64 (0))]) H.out (fun c hc => by
      simp only [List.cons_append, List.nil_append, List.mem_cons, List.not_mem_nil, or_false] at hc
      rcases hc with rfl | rfl | rfl | rfl | rfl | rfl | rfl | rfl | rfl | rfl | rfl | rfl | rfl | rfl | rfl | rfl | rfl | rfl | rfl | rfl | rfl <;> (simp only [ne_eq, Addr.mk.injEq, not_and]; omega)) (by show W.heap.size ≤ pm; omega) (by show pm ≠ po; omega) (by show pm ≠ b; omega)
  rw [← hY2]
  have H : Hid _ := H2.out
  clear hY2 H2 rk rkf
  have k_pa_0 := (H.out.fix (⟨pa, 0, none⟩, .int .i64 (q0)) (by simp)).1
  have k_pa_1 := (H.out.fix (⟨pa, 1, none⟩, .int .i64 (q1)) (by simp)).1
  have k_pa_2 := (H.out.fix (⟨pa, 2, none⟩, .int .i64 (q2)) (by simp)).1
  have k_pa_3 := (H.out.fix (⟨pa, 3, none⟩, .int .i64 (q3)) (by simp)).1
  have l_pa := World.block_lt_of_cell? _ _ k_pa_0
  dsimp only at l_pa
  have ho := H.out.own
  have hof := H.out.ownf
  go_wp2_with (fail)
  refine (rdot_law po 0 g10 [t1, t0] [q3, q2] (some ⟨Y2.heap.size, 0, none⟩) (some ⟨Y2.heap.size + 1, 0, none⟩) 2 2 ((Y2.alloc (.cells #[.int .i64 (t1), .int .i64 (t0)] 3)).alloc (.cells #[.int .i64 (q3), .int .i64 (q2)] 3)) ((H.out.alloc (.cells #[.int .i64 (t1), .int .i64 (t0)] 3)).alloc (.cells #[.int .i64 (q3), .int .i64 (q2)] 3)).own ((H.out.alloc (.cells #[.int .i64 (t1), .int .i64 (t0)] 3)).alloc (.cells #[.int .i64 (q3), .int .i64 (q2)] 3)).ownf (by simp) (by simp) (row2 (by simp [go_sem]) (by simp [go_sem])) (row2 (by simp [go_sem]) (by simp [go_sem]))).mono ?_
  rintro e Wg11 ⟨d2, g11, rfl, Sg11, A⟩
  have H : Hid _ := ((H.out.alloc (.cells #[.int .i64 (t1), .int .i64 (t0)] 3)).alloc (.cells #[.int .i64 (q3), .int .i64 (q2)] 3)).after A.out
  clear A k_pa_0 k_pa_1 k_pa_2 k_pa_3 l_pa ho hof
  have rk := (H.out.fix (⟨pm, 2, none⟩, .int .i64 (0)) (by simp)).1
  have rkf := (H.out.fix (⟨pm, 2, none⟩, .int .i64 (0)) (by simp)).2
  go_upto_region 13 with fail
  obtain ⟨Y3, hY3⟩ : ∃ X, X = Wg11.setCell ⟨pm, 2, none⟩ (.int .i64 (d2)) := ⟨_, rfl⟩
  have H2 : Hid (Ho W Y3 ⟨b, off, none⟩ po f g11 ([(⟨pm, 0, none⟩, .int .i64 (s0)), (⟨pm, 1, none⟩, .int .i64 (d1)), (⟨pm, 2, none⟩, .int .i64 (d2)), (⟨pm, 3, none⟩, .int .i64 (0)), (⟨pm, 4, none⟩, .int .i64 (0)), (⟨pm, 5, none⟩, .int .i64 (0)), (⟨pm, 6, none⟩, .int .i64 (0)), (⟨pm, 7, none⟩, .int .i64 (0)), (⟨pm, 8, none⟩, .int .i64 (0))] ++ [(⟨pa, 0, none⟩, .int .i64 (q0)), (⟨pa, 1, none⟩, .int .i64 (q1)), (⟨pa, 2, none⟩, .int .i64 (q2)), (⟨pa, 3, none⟩, .int .i64 (q3)), (⟨pr, 0, none⟩, .int .i64 (0)), (⟨pr, 1, none⟩, .int .i64 (0)), (⟨pr, 2, none⟩, .int .i64 (0)), (⟨pr, 3, none⟩, .int .i64 (0)), (⟨pr, 4, none⟩, .int .i64 (0)), (⟨pr, 5, none⟩, .int .i64 (0)), (⟨pr, 6, none⟩, .int .i64 (0)), (⟨pr, 7, none⟩, .int .i64 (0)), (⟨pr, 8, none⟩, .int .i64 (0))])) := by
    show Ho _ _ _ _ _ _ _
    rw [hY3]
    exact Ho.put (l1 := [(⟨pm, 0, none⟩, .int .i64 (s0)), (⟨pm, 1, none⟩, .int .i64 (d1))]) (l2 := [(⟨pm, 3, none⟩, .int .i64 (0)), (⟨pm, 4, none⟩, .int .i64 (0)), (⟨pm, 5, none⟩, .int .i64 (0)), (⟨pm, 6, none⟩, .int .i64 (0)), (⟨pm, 7, none⟩, .int .i64 (0)), (⟨pm, 8, none⟩, .int .i64 (0))] ++ [(⟨pa, 0, none⟩, .int .i64 (q0)), (⟨pa, 1, none⟩, .int .i64 (q1)), (⟨pa, 2, none⟩, .int .i64 (q2)), (⟨pa, 3, none⟩, .int .i64 (q3)), (⟨pr, 0, none⟩, .int .i64 (0)), (⟨pr, 1, none⟩, .int .i64 (0)), (⟨pr, 2, none⟩, .int .i64 (0)), (⟨pr, 3, none⟩, .int .i64 (0)), (⟨pr, 4, none⟩, .int .i64 (0)), (⟨pr, 5, none⟩, .int .i64 (0)), (⟨pr, 6, none⟩, .int .i64 (0)), (⟨pr, 7, none⟩, .int .i64 (0)), (⟨pr, 8, none⟩, .int .i64 (0))]) H.out (fun c hc => by
      simp only [List.cons_append, List.nil_append, List.mem_cons, List.not_mem_nil, or_false] at hc
      rcases hc with rfl | rfl | rfl | rfl | rfl | rfl | rfl | rfl | rfl | rfl | rfl | rfl | rfl | rfl | rfl | rfl | rfl | rfl | rfl | rfl | rfl <;> (simp only [ne_eq, Addr.mk.injEq, not_and]; omega)) (by show W.heap.size ≤ pm; omega) (by show pm ≠ po; omega) (by show pm ≠ b; omega)
  rw [← hY3]
  have H : Hid _ := H2.out
  clear hY3 H2 rk rkf
  have k_pa_0 := (H.out.fix (⟨pa, 0, none⟩, .int .i64 (q0)) (by simp)).1
  have k_pa_1 := (H.out.fix (⟨pa, 1, none⟩, .int .i64 (q1)) (by simp)).1
  have k_pa_2 := (H.out.fix (⟨pa, 2, none⟩, .int .i64 (q2)) (by simp)).1
  have k_pa_3 := (H.out.fix (⟨pa, 3, none⟩, .int .i64 (q3)) (by simp)).1
  have l_pa := World.block_lt_of_cell? _ _ k_pa_0
  dsimp only at l_pa
  have ho := H.out.own
  have hof := H.out.ownf
  go_wp2_with (fail)
  refine (rdot_law po 0 g11 [t1, t0] [q2, q3] (some ⟨Y3.heap.size, 0, none⟩) (some ⟨Y3.heap.size + 1, 0, none⟩) 2 2 ((Y3.alloc (.cells #[.int .i64 (t1), .int .i64 (t0)] 3)).alloc (.cells #[.int .i64 (q2), .int .i64 (q3)] 3)) ((H.out.alloc (.cells #[.int .i64 (t1), .int .i64 (t0)] 3)).alloc (.cells #[.int .i64 (q2), .int .i64 (q3)] 3)).own ((H.out.alloc (.cells #[.int .i64 (t1), .int .i64 (t0)] 3)).alloc (.cells #[.int .i64 (q2), .int .i64 (q3)] 3)).ownf (by simp) (by simp) (row2 (by simp [go_sem]) (by simp [go_sem])) (row2 (by simp [go_sem]) (by simp [go_sem]))).mono ?_
  rintro e Wg12 ⟨d3, g12, rfl, Sg12, A⟩
  have H : Hid _ := ((H.out.alloc (.cells #[.int .i64 (t1), .int .i64 (t0)] 3)).alloc (.cells #[.int .i64 (q2), .int .i64 (q3)] 3)).after A.out
  clear A k_pa_0 k_pa_1 k_pa_2 k_pa_3 l_pa ho hof
  have rk := (H.out.fix (⟨pm, 3, none⟩, .int .i64 (0)) (by simp)).1
  have rkf := (H.out.fix (⟨pm, 3, none⟩, .int .i64 (0)) (by simp)).2
  go_upto_region 14 with fail
  obtain ⟨Y4, hY4⟩ : ∃ X, X = Wg12.setCell ⟨pm, 3, none⟩ (.int .i64 (d3)) := ⟨_, rfl⟩
  have H2 : Hid (Ho W Y4 ⟨b, off, none⟩ po f g12 ([(⟨pm, 0, none⟩, .int .i64 (s0)), (⟨pm, 1, none⟩, .int .i64 (d1)), (⟨pm, 2, none⟩, .int .i64 (d2)), (⟨pm, 3, none⟩, .int .i64 (d3)), (⟨pm, 4, none⟩, .int .i64 (0)), (⟨pm, 5, none⟩, .int .i64 (0)), (⟨pm, 6, none⟩, .int .i64 (0)), (⟨pm, 7, none⟩, .int .i64 (0)), (⟨pm, 8, none⟩, .int .i64 (0))] ++ [(⟨pa, 0, none⟩, .int .i64 (q0)), (⟨pa, 1, none⟩, .int .i64 (q1)), (⟨pa, 2, none⟩, .int .i64 (q2)), (⟨pa, 3, none⟩, .int .i64 (q3)), (⟨pr, 0, none⟩, .int .i64 (0)), (⟨pr, 1, none⟩, .int .i64 (0)), (⟨pr, 2, none⟩, .int .i64 (0)), (⟨pr, 3, none⟩, .int .i64 (0)), (⟨pr, 4, none⟩, .int .i64 (0)), (⟨pr, 5, none⟩, .int .i64 (0)), (⟨pr, 6, none⟩, .int .i64 (0)), (⟨pr, 7, none⟩, .int .i64 (0)), (⟨pr, 8, none⟩, .int .i64 (0))])) := by
    show Ho _ _ _ _ _ _ _
    rw [hY4]
    exact Ho.put (l1 := [(⟨pm, 0, none⟩, .int .i64 (s0)), (⟨pm, 1, none⟩, .int .i64 (d1)), (⟨pm, 2, none⟩, .int .i64 (d2))]) (l2 := [(⟨pm, 4, none⟩, .int .i64 (0)), (⟨pm, 5, none⟩, .int .i64 (0)), (⟨pm, 6, none⟩, .int .i64 (0)), (⟨pm, 7, none⟩, .int .i64 (0)), (⟨pm, 8, none⟩, .int .i64 (0))] ++ [(⟨pa, 0, none⟩, .int .i64 (q0)), (⟨pa, 1, none⟩, .int .i64 (q1)), (⟨pa, 2, none⟩, .int .i64 (q2)), (⟨pa, 3, none⟩, .int .i64 (q3)), (⟨pr, 0, none⟩, .int .i64 (0)), (⟨pr, 1, none⟩, .int .i64 (0)), (⟨pr, 2, none⟩, .int .i64 (0)), (⟨pr, 3, none⟩, .int .i64 (0)), (⟨pr, 4, none⟩, .int .i64 (0)), (⟨pr, 5, none⟩, .int .i64 (0)), (⟨pr, 6, none⟩, .int .i64 (0)), (⟨pr, 7, none⟩, .int .i64 (0)), (⟨pr, 8, none⟩, .int .i64 (0))]) H.out (fun c hc => by
      simp only [List.cons_append, List.nil_append, List.mem_cons, List.not_mem_nil, or_false] at hc
      rcases hc with rfl | rfl | rfl | rfl | rfl | rfl | rfl | rfl | rfl | rfl | rfl | rfl | rfl | rfl | rfl | rfl | rfl | rfl | rfl | rfl | rfl <;> (simp only [ne_eq, Addr.mk.injEq, not_and]; omega)) (by show W.heap.size ≤ pm; omega) (by show pm ≠ po; omega) (by show pm ≠ b; omega)
  rw [← hY4]
  have H : Hid _ := H2.out
  clear hY4 H2 rk rkf
  have k_pa_0 := (H.out.fix (⟨pa, 0, none⟩, .int .i64 (q0)) (by simp)).1
  have k_pa_1 := (H.out.fix (⟨pa, 1, none⟩, .int .i64 (q1)) (by simp)).1
  have k_pa_2 := (H.out.fix (⟨pa, 2, none⟩, .int .i64 (q2)) (by simp)).1
  have k_pa_3 := (H.out.fix (⟨pa, 3, none⟩, .int .i64 (q3)) (by simp)).1
  have l_pa := World.block_lt_of_cell? _ _ k_pa_0
  dsimp only at l_pa
  have ho := H.out.own
  have hof := H.out.ownf
  go_wp2_with (fail)
  refine (rdot_law po 0 g12 [t1, t3] [q1, q3] (some ⟨Y4.heap.size, 0, none⟩) (some ⟨Y4.heap.size + 1, 0, none⟩) 2 2 ((Y4.alloc (.cells #[.int .i64 (t1), .int .i64 (t3)] 3)).alloc (.cells #[.int .i64 (q1), .int .i64 (q3)] 3)) ((H.out.alloc (.cells #[.int .i64 (t1), .int .i64 (t3)] 3)).alloc (.cells #[.int .i64 (q1), .int .i64 (q3)] 3)).own ((H.out.alloc (.cells #[.int .i64 (t1), .int .i64 (t3)] 3)).alloc (.cells #[.int .i64 (q1), .int .i64 (q3)] 3)).ownf (by simp) (by simp) (row2 (by simp [go_sem]) (by simp [go_sem])) (row2 (by simp [go_sem]) (by simp [go_sem]))).mono ?_
  rintro e Wg13 ⟨d4, g13, rfl, Sg13, A⟩
  have H : Hid _ := ((H.out.alloc (.cells #[.int .i64 (t1), .int .i64 (t3)] 3)).alloc (.cells #[.int .i64 (q1), .int .i64 (q3)] 3)).after A.out
  clear A k_pa_0 k_pa_1 k_pa_2 k_pa_3 l_pa ho hof
  go_wp2_with (fail)
  refine (rsub_law po 0 g13 4294967296 d4 _ H.out.own H.out.ownf).mono ?_
  rintro e Wg14 ⟨s4, g14, rfl, Sg14, A⟩
  have H : Hid _ := H.out.after A.out
  clear A
  have rk := (H.out.fix (⟨pm, 4, none⟩, .int .i64 (0)) (by simp)).1
  have rkf := (H.out.fix (⟨pm, 4, none⟩, .int .i64 (0)) (by simp)).2
  go_upto_region 15 with fail
  obtain ⟨Y5, hY5⟩ : ∃ X, X = Wg14.setCell ⟨pm, 4, none⟩ (.int .i64 (s4)) := ⟨_, rfl⟩
  have H2 : Hid (Ho W Y5 ⟨b, off, none⟩ po f g14 ([(⟨pm, 0, none⟩, .int .i64 (s0)), (⟨pm, 1, none⟩, .int .i64 (d1)), (⟨pm, 2, none⟩, .int .i64 (d2)), (⟨pm, 3, none⟩, .int .i64 (d3)), (⟨pm, 4, none⟩, .int .i64 (s4)), (⟨pm, 5, none⟩, .int .i64 (0)), (⟨pm, 6, none⟩, .int .i64 (0)), (⟨pm, 7, none⟩, .int .i64 (0)), (⟨pm, 8, none⟩, .int .i64 (0))] ++ [(⟨pa, 0, none⟩, .int .i64 (q0)), (⟨pa, 1, none⟩, .int .i64 (q1)), (⟨pa, 2, none⟩, .int .i64 (q2)), (⟨pa, 3, none⟩, .int .i64 (q3)), (⟨pr, 0, none⟩, .int .i64 (0)), (⟨pr, 1, none⟩, .int .i64 (0)), (⟨pr, 2, none⟩, .int .i64 (0)), (⟨pr, 3, none⟩, .int .i64 (0)), (⟨pr, 4, none⟩, .int .i64 (0)), (⟨pr, 5, none⟩, .int .i64 (0)), (⟨pr, 6, none⟩, .int .i64 (0)), (⟨pr, 7, none⟩, .int .i64 (0)), (⟨pr, 8, none⟩, .int .i64 (0))])) := by
    show Ho _ _ _ _ _ _ _
    rw [hY5]
    exact Ho.put (l1 := [(⟨pm, 0, none⟩, .int .i64 (s0)), (⟨pm, 1, none⟩, .int .i64 (d1)), (⟨pm, 2, none⟩, .int .i64 (d2)), (⟨pm, 3, none⟩, .int .i64 (d3))]) (l2 := [(⟨pm, 5, none⟩, .int .i64 (0)), (⟨pm, 6, none⟩, .int .i64 (0)), (⟨pm, 7, none⟩, .int .i64 (0)), (⟨pm, 8, none⟩, .int .i64 (0))] ++ [(⟨pa, 0, none⟩, .int .i64 (q0)), (⟨pa, 1, none⟩, .int .i64 (q1)), (⟨pa, 2, none⟩, .int .i64 (q2)), (⟨pa, 3, none⟩, .int .i64 (q3)), (⟨pr, 0, none⟩, .int .i64 (0)), (⟨pr, 1, none⟩, .int .i64 (0)), (⟨pr, 2, none⟩, .int .i64 (0)), (⟨pr, 3, none⟩, .int .i64 (0)), (⟨pr, 4, none⟩, .int .i64 (0)), (⟨pr, 5, none⟩, .int .i64 (0)), (⟨pr, 6, none⟩, .int .i64 (0)), (⟨pr, 7, none⟩, .int .i64 (0)), (⟨pr, 8, none⟩, .int .i64 (0))]) H.out (fun c hc => by
      simp only [List.cons_append, List.nil_append, List.mem_cons, List.not_mem_nil, or_false] at hc
      rcases hc with rfl | rfl | rfl | rfl | rfl | rfl | rfl | rfl | rfl | rfl | rfl | rfl | rfl | rfl | rfl | rfl | rfl | rfl | rfl | rfl | rfl <;> (simp only [ne_eq, Addr.mk.injEq, not_and]; omega)) (by show W.heap.size ≤ pm; omega) (by show pm ≠ po; omega) (by show pm ≠ b; omega)
  rw [← hY5]
  have H : Hid _ := H2.out
  clear hY5 H2 rk rkf
  have k_pa_0 := (H.out.fix (⟨pa, 0, none⟩, .int .i64 (q0)) (by simp)).1
  have k_pa_1 := (H.out.fix (⟨pa, 1, none⟩, .int .i64 (q1)) (by simp)).1
  have k_pa_2 := (H.out.fix (⟨pa, 2, none⟩, .int .i64 (q2)) (by simp)).1
  have k_pa_3 := (H.out.fix (⟨pa, 3, none⟩, .int .i64 (q3)) (by simp)).1
  have l_pa := World.block_lt_of_cell? _ _ k_pa_0
  dsimp only at l_pa
  have ho := H.out.own
  have hof := H.out.ownf
  go_wp2_with (fail)
  refine (rdot_law po 0 g14 [t2, t0] [q3, n1] (some ⟨Y5.heap.size, 0, none⟩) (some ⟨Y5.heap.size + 1, 0, none⟩) 2 2 ((Y5.alloc (.cells #[.int .i64 (t2), .int .i64 (t0)] 3)).alloc (.cells #[.int .i64 (q3), .int .i64 (n1)] 3)) ((H.out.alloc (.cells #[.int .i64 (t2), .int .i64 (t0)] 3)).alloc (.cells #[.int .i64 (q3), .int .i64 (n1)] 3)).own ((H.out.alloc (.cells #[.int .i64 (t2), .int .i64 (t0)] 3)).alloc (.cells #[.int .i64 (q3), .int .i64 (n1)] 3)).ownf (by simp) (by simp) (row2 (by simp [go_sem]) (by simp [go_sem])) (row2 (by simp [go_sem]) (by simp [go_sem]))).mono ?_
  rintro e Wg15 ⟨d5, g15, rfl, Sg15, A⟩
  have H : Hid _ := ((H.out.alloc (.cells #[.int .i64 (t2), .int .i64 (t0)] 3)).alloc (.cells #[.int .i64 (q3), .int .i64 (n1)] 3)).after A.out
  clear A k_pa_0 k_pa_1 k_pa_2 k_pa_3 l_pa ho hof
  have rk := (H.out.fix (⟨pm, 5, none⟩, .int .i64 (0)) (by simp)).1
  have rkf := (H.out.fix (⟨pm, 5, none⟩, .int .i64 (0)) (by simp)).2
  go_upto_region 16 with fail
  obtain ⟨Y6, hY6⟩ : ∃ X, X = Wg15.setCell ⟨pm, 5, none⟩ (.int .i64 (d5)) := ⟨_, rfl⟩
  have H2 : Hid (Ho W Y6 ⟨b, off, none⟩ po f g15 ([(⟨pm, 0, none⟩, .int .i64 (s0)), (⟨pm, 1, none⟩, .int .i64 (d1)), (⟨pm, 2, none⟩, .int .i64 (d2)), (⟨pm, 3, none⟩, .int .i64 (d3)), (⟨pm, 4, none⟩, .int .i64 (s4)), (⟨pm, 5, none⟩, .int .i64 (d5)), (⟨pm, 6, none⟩, .int .i64 (0)), (⟨pm, 7, none⟩, .int .i64 (0)), (⟨pm, 8, none⟩, .int .i64 (0))] ++ [(⟨pa, 0, none⟩, .int .i64 (q0)), (⟨pa, 1, none⟩, .int .i64 (q1)), (⟨pa, 2, none⟩, .int .i64 (q2)), (⟨pa, 3, none⟩, .int .i64 (q3)), (⟨pr, 0, none⟩, .int .i64 (0)), (⟨pr, 1, none⟩, .int .i64 (0)), (⟨pr, 2, none⟩, .int .i64 (0)), (⟨pr, 3, none⟩, .int .i64 (0)), (⟨pr, 4, none⟩, .int .i64 (0)), (⟨pr, 5, none⟩, .int .i64 (0)), (⟨pr, 6, none⟩, .int .i64 (0)), (⟨pr, 7, none⟩, .int .i64 (0)), (⟨pr, 8, none⟩, .int .i64 (0))])) := by
    show Ho _ _ _ _ _ _ _
    rw [hY6]
    exact Ho.put (l1 := [(⟨pm, 0, none⟩, .int .i64 (s0)), (⟨pm, 1, none⟩, .int .i64 (d1)), (⟨pm, 2, none⟩, .int .i64 (d2)), (⟨pm, 3, none⟩, .int .i64 (d3)), (⟨pm, 4, none⟩, .int .i64 (s4))]) (l2 := [(⟨pm, 6, none⟩, .int .i64 (0)), (⟨pm, 7, none⟩, .int .i64 (0)), (⟨pm, 8, none⟩, .int .i64 (0))] ++ [(⟨pa, 0, none⟩, .int .i64 (q0)), (⟨pa, 1, none⟩, .int .i64 (q1)), (⟨pa, 2, none⟩, .int .i64 (q2)), (⟨pa, 3, none⟩, .int .i64 (q3)), (⟨pr, 0, none⟩, .int .i64 (0)), (⟨pr, 1, none⟩, .int .i64 (0)), (⟨pr, 2, none⟩, .int .i64 (0)), (⟨pr, 3, none⟩, .int .i64 (0)), (⟨pr, 4, none⟩, .int .i64 (0)), (⟨pr, 5, none⟩, .int .i64 (0)), (⟨pr, 6, none⟩, .int .i64 (0)), (⟨pr, 7, none⟩, .int .i64 (0)), (⟨pr, 8, none⟩, .int .i64 (0))]) H.out (fun c hc => by
      simp only [List.cons_append, List.nil_append, List.mem_cons, List.not_mem_nil, or_false] at hc
      rcases hc with rfl | rfl | rfl | rfl | rfl | rfl | rfl | rfl | rfl | rfl | rfl | rfl | rfl | rfl | rfl | rfl | rfl | rfl | rfl | rfl | rfl <;> (simp only [ne_eq, Addr.mk.injEq, not_and]; omega)) (by show W.heap.size ≤ pm; omega) (by show pm ≠ po; omega) (by show pm ≠ b; omega)
  rw [← hY6]
  have H : Hid _ := H2.out
  clear hY6 H2 rk rkf
  have k_pa_0 := (H.out.fix (⟨pa, 0, none⟩, .int .i64 (q0)) (by simp)).1
  have k_pa_1 := (H.out.fix (⟨pa, 1, none⟩, .int .i64 (q1)) (by simp)).1
  have k_pa_2 := (H.out.fix (⟨pa, 2, none⟩, .int .i64 (q2)) (by simp)).1
  have k_pa_3 := (H.out.fix (⟨pa, 3, none⟩, .int .i64 (q3)) (by simp)).1
  have l_pa := World.block_lt_of_cell? _ _ k_pa_0
  dsimp only at l_pa
  have ho := H.out.own
  have hof := H.out.ownf
  go_wp2_with (fail)
  refine (rdot_law po 0 g15 [t1, t0] [q3, n2] (some ⟨Y6.heap.size, 0, none⟩) (some ⟨Y6.heap.size + 1, 0, none⟩) 2 2 ((Y6.alloc (.cells #[.int .i64 (t1), .int .i64 (t0)] 3)).alloc (.cells #[.int .i64 (q3), .int .i64 (n2)] 3)) ((H.out.alloc (.cells #[.int .i64 (t1), .int .i64 (t0)] 3)).alloc (.cells #[.int .i64 (q3), .int .i64 (n2)] 3)).own ((H.out.alloc (.cells #[.int .i64 (t1), .int .i64 (t0)] 3)).alloc (.cells #[.int .i64 (q3), .int .i64 (n2)] 3)).ownf (by simp) (by simp) (row2 (by simp [go_sem]) (by simp [go_sem])) (row2 (by simp [go_sem]) (by simp [go_sem]))).mono ?_
  rintro e Wg16 ⟨d6, g16, rfl, Sg16, A⟩
  have H : Hid _ := ((H.out.alloc (.cells #[.int .i64 (t1), .int .i64 (t0)] 3)).alloc (.cells #[.int .i64 (q3), .int .i64 (n2)] 3)).after A.out
  clear A k_pa_0 k_pa_1 k_pa_2 k_pa_3 l_pa ho hof
  have rk := (H.out.fix (⟨pm, 6, none⟩, .int .i64 (0)) (by simp)).1
  have rkf := (H.out.fix (⟨pm, 6, none⟩, .int .i64 (0)) (by simp)).2
  go_upto_region 17 with fail
  obtain ⟨Y7, hY7⟩ : ∃ X, X = Wg16.setCell ⟨pm, 6, none⟩ (.int .i64 (d6)) := ⟨_, rfl⟩
  have H2 : Hid (Ho W Y7 ⟨b, off, none⟩ po f g16 ([(⟨pm, 0, none⟩, .int .i64 (s0)), (⟨pm, 1, none⟩, .int .i64 (d1)), (⟨pm, 2, none⟩, .int .i64 (d2)), (⟨pm, 3, none⟩, .int .i64 (d3)), (⟨pm, 4, none⟩, .int .i64 (s4)), (⟨pm, 5, none⟩, .int .i64 (d5)), (⟨pm, 6, none⟩, .int .i64 (d6)), (⟨pm, 7, none⟩, .int .i64 (0)), (⟨pm, 8, none⟩, .int .i64 (0))] ++ [(⟨pa, 0, none⟩, .int .i64 (q0)), (⟨pa, 1, none⟩, .int .i64 (q1)), (⟨pa, 2, none⟩, .int .i64 (q2)), (⟨pa, 3, none⟩, .int .i64 (q3)), (⟨pr, 0, none⟩, .int .i64 (0)), (⟨pr, 1, none⟩, .int .i64 (0)), (⟨pr, 2, none⟩, .int .i64 (0)), (⟨pr, 3, none⟩, .int .i64 (0)), (⟨pr, 4, none⟩, .int .i64 (0)), (⟨pr, 5, none⟩, .int .i64 (0)), (⟨pr, 6, none⟩, .int .i64 (0)), (⟨pr, 7, none⟩, .int .i64 (0)), (⟨pr, 8, none⟩, .int .i64 (0))])) := by
    show Ho _ _ _ _ _ _ _
    rw [hY7]
    exact Ho.put (l1 := [(⟨pm, 0, none⟩, .int .i64 (s0)), (⟨pm, 1, none⟩, .int .i64 (d1)), (⟨pm, 2, none⟩, .int .i64 (d2)), (⟨pm, 3, none⟩, .int .i64 (d3)), (⟨pm, 4, none⟩, .int .i64 (s4)), (⟨pm, 5, none⟩, .int .i64 (d5))]) (l2 := [(⟨pm, 7, none⟩, .int .i64 (0)), (⟨pm, 8, none⟩, .int .i64 (0))] ++ [(⟨pa, 0, none⟩, .int .i64 (q0)), (⟨pa, 1, none⟩, .int .i64 (q1)), (⟨pa, 2, none⟩, .int .i64 (q2)), (⟨pa, 3, none⟩, .int .i64 (q3)), (⟨pr, 0, none⟩, .int .i64 (0)), (⟨pr, 1, none⟩, .int .i64 (0)), (⟨pr, 2, none⟩, .int .i64 (0)), (⟨pr, 3, none⟩, .int .i64 (0)), (⟨pr, 4, none⟩, .int .i64 (0)), (⟨pr, 5, none⟩, .int .i64 (0)), (⟨pr, 6, none⟩, .int .i64 (0)), (⟨pr, 7, none⟩, .int .i64 (0)), (⟨pr, 8, none⟩, .int .i64 (0))]) H.out (fun c hc => by
      simp only [List.cons_append, List.nil_append, List.mem_cons, List.not_mem_nil, or_false] at hc
      rcases hc with rfl | rfl | rfl | rfl | rfl | rfl | rfl | rfl | rfl | rfl | rfl | rfl | rfl | rfl | rfl | rfl | rfl | rfl | rfl | rfl | rfl <;> (simp only [ne_eq, Addr.mk.injEq, not_and]; omega)) (by show W.heap.size ≤ pm; omega) (by show pm ≠ po; omega) (by show pm ≠ b; omega)
  rw [← hY7]
  have H : Hid _ := H2.out
  clear hY7 H2 rk rkf
  have k_pa_0 := (H.out.fix (⟨pa, 0, none⟩, .int .i64 (q0)) (by simp)).1
  have k_pa_1 := (H.out.fix (⟨pa, 1, none⟩, .int .i64 (q1)) (by simp)).1
  have k_pa_2 := (H.out.fix (⟨pa, 2, none⟩, .int .i64 (q2)) (by simp)).1
  have k_pa_3 := (H.out.fix (⟨pa, 3, none⟩, .int .i64 (q3)) (by simp)).1
  have l_pa := World.block_lt_of_cell? _ _ k_pa_0
  dsimp only at l_pa
  have ho := H.out.own
  have hof := H.out.ownf
  go_wp2_with (fail)
  refine (rdot_law po 0 g16 [t2, t0] [q3, q1] (some ⟨Y7.heap.size, 0, none⟩) (some ⟨Y7.heap.size + 1, 0, none⟩) 2 2 ((Y7.alloc (.cells #[.int .i64 (t2), .int .i64 (t0)] 3)).alloc (.cells #[.int .i64 (q3), .int .i64 (q1)] 3)) ((H.out.alloc (.cells #[.int .i64 (t2), .int .i64 (t0)] 3)).alloc (.cells #[.int .i64 (q3), .int .i64 (q1)] 3)).own ((H.out.alloc (.cells #[.int .i64 (t2), .int .i64 (t0)] 3)).alloc (.cells #[.int .i64 (q3), .int .i64 (q1)] 3)).ownf (by simp) (by simp) (row2 (by simp [go_sem]) (by simp [go_sem])) (row2 (by simp [go_sem]) (by simp [go_sem]))).mono ?_
  rintro e Wg17 ⟨d7, g17, rfl, Sg17, A⟩
  have H : Hid _ := ((H.out.alloc (.cells #[.int .i64 (t2), .int .i64 (t0)] 3)).alloc (.cells #[.int .i64 (q3), .int .i64 (q1)] 3)).after A.out
  clear A k_pa_0 k_pa_1 k_pa_2 k_pa_3 l_pa ho hof
  have rk := (H.out.fix (⟨pm, 7, none⟩, .int .i64 (0)) (by simp)).1
  have rkf := (H.out.fix (⟨pm, 7, none⟩, .int .i64 (0)) (by simp)).2
  go_upto_region 18 with fail
  obtain ⟨Y8, hY8⟩ : ∃ X, X = Wg17.setCell ⟨pm, 7, none⟩ (.int .i64 (d7)) := ⟨_, rfl⟩
  have H2 : Hid (Ho W Y8 ⟨b, off, none⟩ po f g17 ([(⟨pm, 0, none⟩, .int .i64 (s0)), (⟨pm, 1, none⟩, .int .i64 (d1)), (⟨pm, 2, none⟩, .int .i64 (d2)), (⟨pm, 3, none⟩, .int .i64 (d3)), (⟨pm, 4, none⟩, .int .i64 (s4)), (⟨pm, 5, none⟩, .int .i64 (d5)), (⟨pm, 6, none⟩, .int .i64 (d6)), (⟨pm, 7, none⟩, .int .i64 (d7)), (⟨pm, 8, none⟩, .int .i64 (0))] ++ [(⟨pa, 0, none⟩, .int .i64 (q0)), (⟨pa, 1, none⟩, .int .i64 (q1)), (⟨pa, 2, none⟩, .int .i64 (q2)), (⟨pa, 3, none⟩, .int .i64 (q3)), (⟨pr, 0, none⟩, .int .i64 (0)), (⟨pr, 1, none⟩, .int .i64 (0)), (⟨pr, 2, none⟩, .int .i64 (0)), (⟨pr, 3, none⟩, .int .i64 (0)), (⟨pr, 4, none⟩, .int .i64 (0)), (⟨pr, 5, none⟩, .int .i64 (0)), (⟨pr, 6, none⟩, .int .i64 (0)), (⟨pr, 7, none⟩, .int .i64 (0)), (⟨pr, 8, none⟩, .int .i64 (0))])) := by
    show Ho _ _ _ _ _ _ _
    rw [hY8]
    exact Ho.put (l1 := [(⟨pm, 0, none⟩, .int .i64 (s0)), (⟨pm, 1, none⟩, .int .i64 (d1)), (⟨pm, 2, none⟩, .int .i64 (d2)), (⟨pm, 3, none⟩, .int .i64 (d3)), (⟨pm, 4, none⟩, .int .i64 (s4)), (⟨pm, 5, none⟩, .int .i64 (d5)), (⟨pm, 6, none⟩, .int .i64 (d6))]) (l2 := [(⟨pm, 8, none⟩, .int .i64 (0))] ++ [(⟨pa, 0, none⟩, .int .i64 (q0)), (⟨pa, 1, none⟩, .int .i64 (q1)), (⟨pa, 2, none⟩, .int .i64 (q2)), (⟨pa, 3, none⟩, .int .i64 (q3)), (⟨pr, 0, none⟩, .int .i64 (0)), (⟨pr, 1, none⟩, .int .i64 (0)), (⟨pr, 2, none⟩, .int .i64 (0)), (⟨pr, 3, none⟩, .int .i64 (0)), (⟨pr, 4, none⟩, .int .i64 (0)), (⟨pr, 5, none⟩, .int .i64 (0)), (⟨pr, 6, none⟩, .int .i64 (0)), (⟨pr, 7, none⟩, .int .i64 (0)), (⟨pr, 8, none⟩, .int .i64 (0))]) H.out (fun c hc => by
      simp only [List.cons_append, List.nil_append, List.mem_cons, List.not_mem_nil, or_false] at hc
      rcases hc with rfl | rfl | rfl | rfl | rfl | rfl | rfl | rfl | rfl | rfl | rfl | rfl | rfl | rfl | rfl | rfl | rfl | rfl | rfl | rfl | rfl <;> (simp only [ne_eq, Addr.mk.injEq, not_and]; omega)) (by show W.heap.size ≤ pm; omega) (by show pm ≠ po; omega) (by show pm ≠ b; omega)
  rw [← hY8]
  have H : Hid _ := H2.out
  clear hY8 H2 rk rkf
  have k_pa_0 := (H.out.fix (⟨pa, 0, none⟩, .int .i64 (q0)) (by simp)).1
  have k_pa_1 := (H.out.fix (⟨pa, 1, none⟩, .int .i64 (q1)) (by simp)).1
  have k_pa_2 := (H.out.fix (⟨pa, 2, none⟩, .int .i64 (q2)) (by simp)).1
  have k_pa_3 := (H.out.fix (⟨pa, 3, none⟩, .int .i64 (q3)) (by simp)).1
  have l_pa := World.block_lt_of_cell? _ _ k_pa_0
  dsimp only at l_pa
  have ho := H.out.own
  have hof := H.out.ownf
  go_wp2_with (fail)
  refine (rdot_law po 0 g17 [t1, t2] [q1, q2] (some ⟨Y8.heap.size, 0, none⟩) (some ⟨Y8.heap.size + 1, 0, none⟩) 2 2 ((Y8.alloc (.cells #[.int .i64 (t1), .int .i64 (t2)] 3)).alloc (.cells #[.int .i64 (q1), .int .i64 (q2)] 3)) ((H.out.alloc (.cells #[.int .i64 (t1), .int .i64 (t2)] 3)).alloc (.cells #[.int .i64 (q1), .int .i64 (q2)] 3)).own ((H.out.alloc (.cells #[.int .i64 (t1), .int .i64 (t2)] 3)).alloc (.cells #[.int .i64 (q1), .int .i64 (q2)] 3)).ownf (by simp) (by simp) (row2 (by simp [go_sem]) (by simp [go_sem])) (row2 (by simp [go_sem]) (by simp [go_sem]))).mono ?_
  rintro e Wg18 ⟨d8, g18, rfl, Sg18, A⟩
  have H : Hid _ := ((H.out.alloc (.cells #[.int .i64 (t1), .int .i64 (t2)] 3)).alloc (.cells #[.int .i64 (q1), .int .i64 (q2)] 3)).after A.out
  clear A k_pa_0 k_pa_1 k_pa_2 k_pa_3 l_pa ho hof
  go_wp2_with (fail)
  refine (rsub_law po 0 g18 4294967296 d8 _ H.out.own H.out.ownf).mono ?_
  rintro e Wg19 ⟨s8, g19, rfl, Sg19, A⟩
  have H : Hid _ := H.out.after A.out
  clear A
  have rk := (H.out.fix (⟨pm, 8, none⟩, .int .i64 (0)) (by simp)).1
  have rkf := (H.out.fix (⟨pm, 8, none⟩, .int .i64 (0)) (by simp)).2
  go_upto_region 19 with fail
  obtain ⟨Y9, hY9⟩ : ∃ X, X = Wg19.setCell ⟨pm, 8, none⟩ (.int .i64 (s8)) := ⟨_, rfl⟩
  have H2 : Hid (Ho W Y9 ⟨b, off, none⟩ po f g19 ([(⟨pm, 0, none⟩, .int .i64 (s0)), (⟨pm, 1, none⟩, .int .i64 (d1)), (⟨pm, 2, none⟩, .int .i64 (d2)), (⟨pm, 3, none⟩, .int .i64 (d3)), (⟨pm, 4, none⟩, .int .i64 (s4)), (⟨pm, 5, none⟩, .int .i64 (d5)), (⟨pm, 6, none⟩, .int .i64 (d6)), (⟨pm, 7, none⟩, .int .i64 (d7)), (⟨pm, 8, none⟩, .int .i64 (s8))] ++ [(⟨pa, 0, none⟩, .int .i64 (q0)), (⟨pa, 1, none⟩, .int .i64 (q1)), (⟨pa, 2, none⟩, .int .i64 (q2)), (⟨pa, 3, none⟩, .int .i64 (q3)), (⟨pr, 0, none⟩, .int .i64 (0)), (⟨pr, 1, none⟩, .int .i64 (0)), (⟨pr, 2, none⟩, .int .i64 (0)), (⟨pr, 3, none⟩, .int .i64 (0)), (⟨pr, 4, none⟩, .int .i64 (0)), (⟨pr, 5, none⟩, .int .i64 (0)), (⟨pr, 6, none⟩, .int .i64 (0)), (⟨pr, 7, none⟩, .int .i64 (0)), (⟨pr, 8, none⟩, .int .i64 (0))])) := by
    show Ho _ _ _ _ _ _ _
    rw [hY9]
    exact Ho.put (l1 := [(⟨pm, 0, none⟩, .int .i64 (s0)), (⟨pm, 1, none⟩, .int .i64 (d1)), (⟨pm, 2, none⟩, .int .i64 (d2)), (⟨pm, 3, none⟩, .int .i64 (d3)), (⟨pm, 4, none⟩, .int .i64 (s4)), (⟨pm, 5, none⟩, .int .i64 (d5)), (⟨pm, 6, none⟩, .int .i64 (d6)), (⟨pm, 7, none⟩, .int .i64 (d7))]) (l2 := [] ++ [(⟨pa, 0, none⟩, .int .i64 (q0)), (⟨pa, 1, none⟩, .int .i64 (q1)), (⟨pa, 2, none⟩, .int .i64 (q2)), (⟨pa, 3, none⟩, .int .i64 (q3)), (⟨pr, 0, none⟩, .int .i64 (0)), (⟨pr, 1, none⟩, .int .i64 (0)), (⟨pr, 2, none⟩, .int .i64 (0)), (⟨pr, 3, none⟩, .int .i64 (0)), (⟨pr, 4, none⟩, .int .i64 (0)), (⟨pr, 5, none⟩, .int .i64 (0)), (⟨pr, 6, none⟩, .int .i64 (0)), (⟨pr, 7, none⟩, .int .i64 (0)), (⟨pr, 8, none⟩, .int .i64 (0))]) H.out (fun c hc => by
      simp only [List.cons_append, List.nil_append, List.mem_cons, List.not_mem_nil, or_false] at hc
      rcases hc with rfl | rfl | rfl | rfl | rfl | rfl | rfl | rfl | rfl | rfl | rfl | rfl | rfl | rfl | rfl | rfl | rfl | rfl | rfl | rfl | rfl <;> (simp only [ne_eq, Addr.mk.injEq, not_and]; omega)) (by show W.heap.size ≤ pm; omega) (by show pm ≠ po; omega) (by show pm ≠ b; omega)
  rw [← hY9]
  have H : Hid _ := H2.out
  clear hY9 H2 rk rkf
  go_wp2_with (fail)
  refine (done_any b off po f g19 _ H.out.flag H.out.flagf H.out.own (by omega)).mono ?_
  rintro e V9 ⟨rfl, A⟩
  have rr0 := A.out.cellOf (H.out.fix (⟨pr, 0, none⟩, .int .i64 (0)) (by simp)).1 (by show pr ≠ b; omega)
  have rf0 := A.out.frozenOf (H.out.fix (⟨pr, 0, none⟩, .int .i64 (0)) (by simp)).1 (H.out.fix (⟨pr, 0, none⟩, .int .i64 (0)) (by simp)).2 (by show pr ≠ b; omega)
  have mm0 := A.out.cellOf (H.out.fix (⟨pm, 0, none⟩, .int .i64 (s0)) (by simp)).1 (by show pm ≠ b; omega)
  have rr1 := A.out.cellOf (H.out.fix (⟨pr, 1, none⟩, .int .i64 (0)) (by simp)).1 (by show pr ≠ b; omega)
  have rf1 := A.out.frozenOf (H.out.fix (⟨pr, 1, none⟩, .int .i64 (0)) (by simp)).1 (H.out.fix (⟨pr, 1, none⟩, .int .i64 (0)) (by simp)).2 (by show pr ≠ b; omega)
  have mm1 := A.out.cellOf (H.out.fix (⟨pm, 1, none⟩, .int .i64 (d1)) (by simp)).1 (by show pm ≠ b; omega)
  have rr2 := A.out.cellOf (H.out.fix (⟨pr, 2, none⟩, .int .i64 (0)) (by simp)).1 (by show pr ≠ b; omega)
  have rf2 := A.out.frozenOf (H.out.fix (⟨pr, 2, none⟩, .int .i64 (0)) (by simp)).1 (H.out.fix (⟨pr, 2, none⟩, .int .i64 (0)) (by simp)).2 (by show pr ≠ b; omega)
  have mm2 := A.out.cellOf (H.out.fix (⟨pm, 2, none⟩, .int .i64 (d2)) (by simp)).1 (by show pm ≠ b; omega)
  have rr3 := A.out.cellOf (H.out.fix (⟨pr, 3, none⟩, .int .i64 (0)) (by simp)).1 (by show pr ≠ b; omega)
  have rf3 := A.out.frozenOf (H.out.fix (⟨pr, 3, none⟩, .int .i64 (0)) (by simp)).1 (H.out.fix (⟨pr, 3, none⟩, .int .i64 (0)) (by simp)).2 (by show pr ≠ b; omega)
  have mm3 := A.out.cellOf (H.out.fix (⟨pm, 3, none⟩, .int .i64 (d3)) (by simp)).1 (by show pm ≠ b; omega)
  have rr4 := A.out.cellOf (H.out.fix (⟨pr, 4, none⟩, .int .i64 (0)) (by simp)).1 (by show pr ≠ b; omega)
  have rf4 := A.out.frozenOf (H.out.fix (⟨pr, 4, none⟩, .int .i64 (0)) (by simp)).1 (H.out.fix (⟨pr, 4, none⟩, .int .i64 (0)) (by simp)).2 (by show pr ≠ b; omega)
  have mm4 := A.out.cellOf (H.out.fix (⟨pm, 4, none⟩, .int .i64 (s4)) (by simp)).1 (by show pm ≠ b; omega)
  have rr5 := A.out.cellOf (H.out.fix (⟨pr, 5, none⟩, .int .i64 (0)) (by simp)).1 (by show pr ≠ b; omega)
  have rf5 := A.out.frozenOf (H.out.fix (⟨pr, 5, none⟩, .int .i64 (0)) (by simp)).1 (H.out.fix (⟨pr, 5, none⟩, .int .i64 (0)) (by simp)).2 (by show pr ≠ b; omega)
  have mm5 := A.out.cellOf (H.out.fix (⟨pm, 5, none⟩, .int .i64 (d5)) (by simp)).1 (by show pm ≠ b; omega)
  have rr6 := A.out.cellOf (H.out.fix (⟨pr, 6, none⟩, .int .i64 (0)) (by simp)).1 (by show pr ≠ b; omega)
  have rf6 := A.out.frozenOf (H.out.fix (⟨pr, 6, none⟩, .int .i64 (0)) (by simp)).1 (H.out.fix (⟨pr, 6, none⟩, .int .i64 (0)) (by simp)).2 (by show pr ≠ b; omega)
  have mm6 := A.out.cellOf (H.out.fix (⟨pm, 6, none⟩, .int .i64 (d6)) (by simp)).1 (by show pm ≠ b; omega)
  have rr7 := A.out.cellOf (H.out.fix (⟨pr, 7, none⟩, .int .i64 (0)) (by simp)).1 (by show pr ≠ b; omega)
  have rf7 := A.out.frozenOf (H.out.fix (⟨pr, 7, none⟩, .int .i64 (0)) (by simp)).1 (H.out.fix (⟨pr, 7, none⟩, .int .i64 (0)) (by simp)).2 (by show pr ≠ b; omega)
  have mm7 := A.out.cellOf (H.out.fix (⟨pm, 7, none⟩, .int .i64 (d7)) (by simp)).1 (by show pm ≠ b; omega)
  have rr8 := A.out.cellOf (H.out.fix (⟨pr, 8, none⟩, .int .i64 (0)) (by simp)).1 (by show pr ≠ b; omega)
  have rf8 := A.out.frozenOf (H.out.fix (⟨pr, 8, none⟩, .int .i64 (0)) (by simp)).1 (H.out.fix (⟨pr, 8, none⟩, .int .i64 (0)) (by simp)).2 (by show pr ≠ b; omega)
  have mm8 := A.out.cellOf (H.out.fix (⟨pm, 8, none⟩, .int .i64 (s8)) (by simp)).1 (by show pm ≠ b; omega)
  have HL : Hid (Leaves ⟨b, off, none⟩ W V9) := H.out.leaves.same A.out
  have hp := A.out.cell
  have hpf := A.out.frozen
  have n1' : b ≠ pr := by omega
  have n2' : pr ≠ b := by omega
  have n3' : pr ≠ pm := by omega
  have n4' : pm ≠ pr := by omega
  have hWr : W.heap.size ≤ pr := by omega
  have HS : Hid _ := rows_chain (f := f) Sg1.out Sg2.out Sg3.out Sg4.out Sg5.out Sg6.out Sg7.out Sg8.out Sg9.out Sg10.out Sg11.out Sg12.out Sg13.out Sg14.out Sg15.out Sg16.out Sg17.out Sg18.out Sg19.out
  clear A H Sg1 Sg2 Sg3 Sg4 Sg5 Sg6 Sg7 Sg8 Sg9 Sg10 Sg11 Sg12 Sg13 Sg14 Sg15 Sg16 Sg17 Sg18 Sg19
  cases g19 with
  | true =>
    clear mm0 mm1 mm2 mm3 mm4 mm5 mm6 mm7 mm8
    go_wp2_with (fail)
    refine bodyPost_ret (by simp [results, Try.results37, go_sem, rr0, rr1, rr2, rr3, rr4, rr5, rr6, rr7, rr8]; try rfl) rfl ?_
    obtain ⟨e0, e1, e2, e3, e4, e5, e6, e7, e8, eg⟩ := HS.out
    refine ⟨by rw [← e0, ← e1, ← e2, ← e3, ← e4, ← e5, ← e6, ← e7, ← e8]; rfl, by rw [← eg]; exact (((((((((HL.out.set hWr _).set hWr _).set hWr _).set hWr _).set hWr _).set hWr _).set hWr _).set hWr _).set hWr _).done (by simp [go_sem, hp]) (by simp [go_sem, hpf])⟩
  | false =>
    go_wp2_with (fail)
    refine bodyPost_ret (by simp [results, Try.results37, go_sem, rr0, rr1, rr2, rr3, rr4, rr5, rr6, rr7, rr8]; try rfl) rfl ?_
    obtain ⟨e0, e1, e2, e3, e4, e5, e6, e7, e8, eg⟩ := HS.out
    refine ⟨by rw [← e0, ← e1, ← e2, ← e3, ← e4, ← e5, ← e6, ← e7, ← e8]; rfl, by rw [← eg]; exact (((((((((HL.out.set hWr _).set hWr _).set hWr _).set hWr _).set hWr _).set hWr _).set hWr _).set hWr _).set hWr _).done (by simp [go_sem, hp]) (by simp [go_sem, hpf])⟩

end Go.Proofs.Ytfalniafkambmaa
