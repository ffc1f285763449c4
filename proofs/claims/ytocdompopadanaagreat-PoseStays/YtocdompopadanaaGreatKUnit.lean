/- The reference's vectors (tumblerref02): its own work, and what gets out. -/
import Derived.Test.YtocdompopadanaaGreatKRef5
import Derived.Test.YtocdompopadanaaGreatKVec1
import Derived.Test.YtocdompopadanaaGreatKRef8
namespace Go.Proofs.YtocdompopadanaaGreat
open Go.RowKit Ref Fx
set_option linter.unusedVariables false

theorem rvbare_any (W : World) : Calls Tryz.prog 67 #[] W fun e W' => e = .returned (.pointer (some ⟨W.heap.size, 0, none⟩)) ∧ W' = W.alloc (.cells #[.bool false] 73) := by
  go_enter Tryz.func67, Tryz.ntmps67
  go_wp2
  go_ret
  exact ⟨rfl, rfl⟩
set_option maxHeartbeats 1000000 in
theorem done_any (b off o : Nat) (f g : Bool) (W : World) (hc : W.cell? ⟨b, off, none⟩ = some (.bool f)) (hf : W.frozen? ⟨b, off, none⟩ = false) (ho : W.cell? ⟨o, 0, none⟩ = some (.bool g)) (hne : o ≠ b) :
    Calls Tryz.prog 71 #[.pointer (some ⟨b, off, none⟩), .pointer (some ⟨o, 0, none⟩)] W fun e W' => e = .returned (.bool (!g)) ∧ Hid (After ⟨b, off, none⟩ (f || g) W W') := by
  have n1 : b ≠ o := Ne.symm hne
  have fin : ∀ x : Bool, After ⟨b, off, none⟩ x W (W.setCell ⟨b, off, none⟩ (.bool x)) := fun x => ((Leaves.refl ⟨b, off, none⟩ W).own _).done (by simp [go_sem, hc]) (by simp [go_sem, hf])
  have HF : Hid _ := fin
  clear fin
  cases f
  · go_enter Tryz.func71, Tryz.ntmps71
    go_wp2
    go_ret
    exact ⟨rfl, HF.out _⟩
  · go_enter Tryz.func71, Tryz.ntmps71
    go_wp2
    go_ret
    exact ⟨rfl, HF.out _⟩

/-- What holds while a call reckons by a work of its own: the flag at p as it was, the own one g, the cells of l. -/
structure Ho (W V : World) (p : Addr) (po : Nat) (f g : Bool) (l : List (Addr × Value)) : Prop where
  leaves : Leaves p W V
  flag : V.cell? p = some (.bool f)
  flagf : V.frozen? p = false
  own : V.cell? ⟨po, 0, none⟩ = some (.bool g)
  ownf : V.frozen? ⟨po, 0, none⟩ = false
  fix : ∀ c ∈ l, V.cell? c.1 = some c.2 ∧ V.frozen? c.1 = false
  far : ∀ c ∈ l, c.1.block ≠ po
  hp : p.block < W.heap.size
  ho : W.heap.size ≤ po
theorem Ho.after {W V V' : World} {p : Addr} {po : Nat} {f g g' : Bool} {l : List (Addr × Value)} (h : Ho W V p po f g l) (A : After ⟨po, 0, none⟩ g' V V') : Ho W V' p po f g' l :=
  ⟨h.leaves.after A h.ho, A.cellOf h.flag (by have := h.hp; have := h.ho; show p.block ≠ po; omega), A.frozenOf h.flag h.flagf (by have := h.hp; have := h.ho; show p.block ≠ po; omega), A.cell, A.frozen, fun c hc => ⟨A.cellOf (h.fix c hc).1 (h.far c hc), A.frozenOf (h.fix c hc).1 (h.fix c hc).2 (h.far c hc)⟩, h.far, h.hp, h.ho⟩
theorem Ho.alloc {W V : World} {p : Addr} {po : Nat} {f g : Bool} {l : List (Addr × Value)} (h : Ho W V p po f g l) (o : Obj) : Ho W (V.alloc o) p po f g l := by
  have hb := new_after V o
  exact ⟨h.leaves.alloc o, cell_after hb h.flag, frozen_after hb h.flag h.flagf, cell_after hb h.own, frozen_after hb h.own h.ownf, fun c hc => ⟨cell_after hb (h.fix c hc).1, frozen_after hb (h.fix c hc).1 (h.fix c hc).2⟩, h.far, h.hp, h.ho⟩
theorem Ho.drew {W V : World} {p : Addr} {po : Nat} {f g : Bool} {l : List (Addr × Value)} (h : Ho W V p po f g l) : Ho W V.drew p po f g l := ⟨h.leaves.drew, h.flag, h.flagf, h.own, h.ownf, h.fix, h.far, h.hp, h.ho⟩
/-- Three that are told one behind the other. -/
theorem step3_chain {f g1 g2 g3 : Bool} {a b c : Option Int} {x y z : Int} (h1 : Step false a x g1) (h2 : Step g1 b y g2) (h3 : Step g2 c z g3) : Step3 f a b c (cond g3 0 x) (cond g3 0 y) (cond g3 0 z) (f || g3) := by
  obtain ⟨rfl, rfl⟩ := h1
  obtain ⟨rfl, rfl⟩ := h2
  obtain ⟨rfl, rfl⟩ := h3
  simp only [Bool.false_or]
  exact ⟨rfl, rfl, rfl, rfl⟩
end Go.Proofs.YtocdompopadanaaGreat
/- Package vec's unit vectors. -/
namespace Go.Proofs.YtocdompopadanaaGreat
open Go.RowKit Fx
set_option linter.unusedVariables false

theorem unit_step {f : Bool} {x0 x1 x2 : Int} {o : Option Int} {bd : Bool}
    (hb : bd = (o.isNone || ((ratio x0 4294967296 (o.getD 0)).isNone || (ratio x1 4294967296 (o.getD 0)).isNone || (ratio x2 4294967296 (o.getD 0)).isNone))) :
    Step3 f (ratio x0 4294967296 (o.getD 0)) (ratio x1 4294967296 (o.getD 0)) (ratio x2 4294967296 (o.getD 0)) (cond bd 0 ((ratio x0 4294967296 (o.getD 0)).getD 0)) (cond bd 0 ((ratio x1 4294967296 (o.getD 0)).getD 0)) (cond bd 0 ((ratio x2 4294967296 (o.getD 0)).getD 0)) (f || bd) := by
  have e : bd = ((ratio x0 4294967296 (o.getD 0)).isNone || (ratio x1 4294967296 (o.getD 0)).isNone || (ratio x2 4294967296 (o.getD 0)).isNone) := by
    rw [hb]
    cases o with
    | none => simp [ratio]
    | some n => simp
  rw [e]
  exact ⟨rfl, rfl, rfl, rfl⟩

def unit_bad (b off : Nat) (f : Bool) (pa pr po : Nat) (x0 x1 x2 : Int) (W U : World) : Bool := false || ([(4, (norm [x0, x1, x2]).isNone), (5, false), (6, ((ratio (x0) 4294967296 ((norm [x0, x1, x2]).getD 0)).isNone || (ratio (x1) 4294967296 ((norm [x0, x1, x2]).getD 0)).isNone || (ratio (x2) 4294967296 ((norm [x0, x1, x2]).getD 0)).isNone))] : List (Nat × Bool)).any (·.2)

def unit_plan (b off : Nat) (f : Bool) (pa pr po : Nat) (x0 x1 x2 : Int) (W U : World) : Plan where
  W := W
  N := U.heap.size
  p := ⟨b, off, none⟩
  fl := ⟨po, 0, none⟩
  g0 := false
  bad := unit_bad b off f pa pr po x0 x1 x2 W U
  f := f
  calls := [(4, (norm [x0, x1, x2]).isNone), (5, false), (6, ((ratio (x0) 4294967296 ((norm [x0, x1, x2]).getD 0)).isNone || (ratio (x1) 4294967296 ((norm [x0, x1, x2]).getD 0)).isNone || (ratio (x2) 4294967296 ((norm [x0, x1, x2]).getD 0)).isNone))]
  tl := 7
  st := 8
  r := pr
  res := [.int .i64 (cond (unit_bad b off f pa pr po x0 x1 x2 W U) 0 ((ratio (x0) 4294967296 ((norm [x0, x1, x2]).getD 0)).getD 0)), .int .i64 (cond (unit_bad b off f pa pr po x0 x1 x2 W U) 0 ((ratio (x1) 4294967296 ((norm [x0, x1, x2]).getD 0)).getD 0)), .int .i64 (cond (unit_bad b off f pa pr po x0 x1 x2 W U) 0 ((ratio (x2) 4294967296 ((norm [x0, x1, x2]).getD 0)).getD 0))]
  fixed := [(⟨pa, 0, none⟩, .int .i64 (x0)),
    (⟨pa, 1, none⟩, .int .i64 (x1)),
    (⟨pa, 2, none⟩, .int .i64 (x2))]
  made := []

theorem unit_cn (b off : Nat) (f : Bool) (pa pr po : Nat) (x0 x1 x2 : Int) (W U : World) : ((unit_plan b off f pa pr po x0 x1 x2 W U).calls.map (·.1)).Nodup := of_decide_eq_true rfl
theorem unit_mn (b off : Nat) (f : Bool) (pa pr po : Nat) (x0 x1 x2 : Int) (W U : World) : ((unit_plan b off f pa pr po x0 x1 x2 W U).made.map (·.i)).Nodup := of_decide_eq_true rfl
theorem unit_bads (b off : Nat) (f : Bool) (pa pr po : Nat) (x0 x1 x2 : Int) (W U : World) : ((unit_plan b off f pa pr po x0 x1 x2 W U).bad = true → (unit_plan b off f pa pr po x0 x1 x2 W U).g0 = true ∨ ∃ c ∈ (unit_plan b off f pa pr po x0 x1 x2 W U).calls, c.2 = true) ∧ ∀ c ∈ (unit_plan b off f pa pr po x0 x1 x2 W U).calls, c.2 = true → (unit_plan b off f pa pr po x0 x1 x2 W U).bad = true :=
  bad_any_of _ rfl

end Go.Proofs.YtocdompopadanaaGreat
/- The reference's sums, differences, products, lengths and directions, in the words of package vec's laws. -/
namespace Go.Proofs.YtocdompopadanaaGreat
open Go.RowKit Ref Fx
set_option linter.unusedVariables false

set_option maxRecDepth 100000 in
set_option maxHeartbeats 2000000 in
theorem rvadd_law (b off : Nat) (f : Bool) (x0 x1 x2 y0 y1 y2 : Int) (W : World) (hc : W.cell? ⟨b, off, none⟩ = some (.bool f)) (hf : W.frozen? ⟨b, off, none⟩ = false) :
    Calls Tryz.prog 32 #[.pointer (some ⟨b, off, none⟩), .agg #[.int .i64 (x0), .int .i64 (x1), .int .i64 (x2)], .agg #[.int .i64 (y0), .int .i64 (y1), .int .i64 (y2)]] W fun e W' => ∃ v0 v1 v2 g, e = .returned (.agg #[.int .i64 (v0), .int .i64 (v1), .int .i64 (v2)]) ∧ Hid (Step3 f (add x0 y0) (add x1 y1) (add x2 y2) v0 v1 v2 g) ∧ Hid (After ⟨b, off, none⟩ g W W') := by
  have hbW : b < W.heap.size := World.block_lt_of_cell? _ _ hc
  go_enter Tryz.func32, Tryz.ntmps32
  go_wp2_with (fail)
  refine (rvbare_any _).mono ?_
  rintro e W1 ⟨rfl, rfl⟩
  obtain ⟨U, hU⟩ : ∃ U, U = ((((W.alloc (.cells #[.int .i64 (x0), .int .i64 (x1), .int .i64 (x2)] 26)).alloc (.cells #[.int .i64 (y0), .int .i64 (y1), .int .i64 (y2)] 26)).alloc (.cells #[.int .i64 0, .int .i64 0, .int .i64 0] 26)).alloc (.cells #[.bool false] 73)) := ⟨_, rfl⟩
  obtain ⟨pa, hpa⟩ : ∃ p, p = W.heap.size := ⟨_, rfl⟩
  obtain ⟨pb, hpb⟩ : ∃ p, p = W.heap.size + 1 := ⟨_, rfl⟩
  obtain ⟨pr, hpr⟩ : ∃ p, p = W.heap.size + 1 + 1 := ⟨_, rfl⟩
  obtain ⟨po, hpo⟩ : ∃ p, p = W.heap.size + 1 + 1 + 1 := ⟨_, rfl⟩
  have H : Hid (Ho W U ⟨b, off, none⟩ po f false [(⟨pa, 0, none⟩, .int .i64 (x0)), (⟨pa, 1, none⟩, .int .i64 (x1)), (⟨pa, 2, none⟩, .int .i64 (x2)), (⟨pb, 0, none⟩, .int .i64 (y0)), (⟨pb, 1, none⟩, .int .i64 (y1)), (⟨pb, 2, none⟩, .int .i64 (y2)), (⟨pr, 0, none⟩, .int .i64 (0)), (⟨pr, 1, none⟩, .int .i64 (0)), (⟨pr, 2, none⟩, .int .i64 (0))]) := by
    refine ⟨by rw [hU]; exact (((((Leaves.refl _ _).alloc _).alloc _).alloc _).alloc _), by rw [hU, World.cell?_alloc_past _ _ _ (by simp; omega), World.cell?_alloc_past _ _ _ (by simp; omega), World.cell?_alloc_past _ _ _ (by simp; omega), World.cell?_alloc_past _ _ _ hbW]; exact hc, by rw [hU, ((new_after _ _).frozen (by simp; omega)), ((new_after _ _).frozen (by simp; omega)), ((new_after _ _).frozen (by simp; omega)), ((new_after _ _).frozen hbW)]; exact hf, by rw [hU, hpo]; simp [go_sem], by rw [hU, hpo]; simp [go_sem], ?_, ?_, hbW, by omega⟩
    · intro c hc
      simp only [List.mem_cons, List.not_mem_nil, or_false] at hc
      rcases hc with rfl | rfl | rfl | rfl | rfl | rfl | rfl | rfl | rfl <;> rw [hU] <;> dsimp only <;> first | (rw [hpa]; exact ⟨by simp [go_sem], by simp [go_sem]⟩) | (rw [hpb]; exact ⟨by simp [go_sem], by simp [go_sem]⟩) | (rw [hpr]; exact ⟨by simp [go_sem], by simp [go_sem]⟩)
    · intro c hc
      simp only [List.mem_cons, List.not_mem_nil, or_false] at hc
      rcases hc with rfl | rfl | rfl | rfl | rfl | rfl | rfl | rfl | rfl <;> (dsimp only) <;> omega
  rw [← hU]
  simp only [World.size_alloc]
  rw [← hpo, ← hpr, ← hpb, ← hpa]
  have q1 : pa < pb := by omega
  have q2 : pb < pr := by omega
  have q3 : pr < po := by omega
  have q0 : W.heap.size ≤ pa := by omega
  clear hU hc hf hpa hpb hpr hpo
  have k_pa_0 := (H.out.fix (⟨pa, 0, none⟩, .int .i64 (x0)) (by simp)).1
  have k_pa_1 := (H.out.fix (⟨pa, 1, none⟩, .int .i64 (x1)) (by simp)).1
  have k_pa_2 := (H.out.fix (⟨pa, 2, none⟩, .int .i64 (x2)) (by simp)).1
  have k_pb_0 := (H.out.fix (⟨pb, 0, none⟩, .int .i64 (y0)) (by simp)).1
  have k_pb_1 := (H.out.fix (⟨pb, 1, none⟩, .int .i64 (y1)) (by simp)).1
  have k_pb_2 := (H.out.fix (⟨pb, 2, none⟩, .int .i64 (y2)) (by simp)).1
  have l_pa := World.block_lt_of_cell? _ _ k_pa_0
  dsimp only at l_pa
  have l_pb := World.block_lt_of_cell? _ _ k_pb_0
  dsimp only at l_pb
  have ho := H.out.own
  have hof := H.out.ownf
  go_wp2_with (fail)
  refine (radd_law po 0 false x0 y0 _ ho hof).mono ?_
  rintro e Wg1 ⟨v0, g1, rfl, Sg1, A⟩
  have H : Hid _ := H.out.after A.out
  clear A k_pa_0 k_pa_1 k_pa_2 k_pb_0 k_pb_1 k_pb_2 l_pa l_pb ho hof
  have k_pa_0 := (H.out.fix (⟨pa, 0, none⟩, .int .i64 (x0)) (by simp)).1
  have k_pa_1 := (H.out.fix (⟨pa, 1, none⟩, .int .i64 (x1)) (by simp)).1
  have k_pa_2 := (H.out.fix (⟨pa, 2, none⟩, .int .i64 (x2)) (by simp)).1
  have k_pb_0 := (H.out.fix (⟨pb, 0, none⟩, .int .i64 (y0)) (by simp)).1
  have k_pb_1 := (H.out.fix (⟨pb, 1, none⟩, .int .i64 (y1)) (by simp)).1
  have k_pb_2 := (H.out.fix (⟨pb, 2, none⟩, .int .i64 (y2)) (by simp)).1
  have l_pa := World.block_lt_of_cell? _ _ k_pa_0
  dsimp only at l_pa
  have l_pb := World.block_lt_of_cell? _ _ k_pb_0
  dsimp only at l_pb
  have ho := H.out.own
  have hof := H.out.ownf
  go_wp2_with (fail)
  refine (radd_law po 0 g1 x1 y1 _ ho hof).mono ?_
  rintro e Wg2 ⟨v1, g2, rfl, Sg2, A⟩
  have H : Hid _ := H.out.after A.out
  clear A k_pa_0 k_pa_1 k_pa_2 k_pb_0 k_pb_1 k_pb_2 l_pa l_pb ho hof
  have k_pa_0 := (H.out.fix (⟨pa, 0, none⟩, .int .i64 (x0)) (by simp)).1
  have k_pa_1 := (H.out.fix (⟨pa, 1, none⟩, .int .i64 (x1)) (by simp)).1
  have k_pa_2 := (H.out.fix (⟨pa, 2, none⟩, .int .i64 (x2)) (by simp)).1
  have k_pb_0 := (H.out.fix (⟨pb, 0, none⟩, .int .i64 (y0)) (by simp)).1
  have k_pb_1 := (H.out.fix (⟨pb, 1, none⟩, .int .i64 (y1)) (by simp)).1
  have k_pb_2 := (H.out.fix (⟨pb, 2, none⟩, .int .i64 (y2)) (by simp)).1
  have l_pa := World.block_lt_of_cell? _ _ k_pa_0
  dsimp only at l_pa
  have l_pb := World.block_lt_of_cell? _ _ k_pb_0
  dsimp only at l_pb
  have ho := H.out.own
  have hof := H.out.ownf
  go_wp2_with (fail)
  refine (radd_law po 0 g2 x2 y2 _ ho hof).mono ?_
  rintro e Wg3 ⟨v2, g3, rfl, Sg3, A⟩
  have H : Hid _ := H.out.after A.out
  clear A k_pa_0 k_pa_1 k_pa_2 k_pb_0 k_pb_1 k_pb_2 l_pa l_pb ho hof
  go_wp2_with (fail)
  refine (done_any b off po f g3 _ H.out.flag H.out.flagf H.out.own (by omega)).mono ?_
  rintro e V9 ⟨rfl, A⟩
  have rr0 := A.out.cellOf (H.out.fix (⟨pr, 0, none⟩, .int .i64 (0)) (by simp)).1 (by show pr ≠ b; omega)
  have rf0 := A.out.frozenOf (H.out.fix (⟨pr, 0, none⟩, .int .i64 (0)) (by simp)).1 (H.out.fix (⟨pr, 0, none⟩, .int .i64 (0)) (by simp)).2 (by show pr ≠ b; omega)
  have rr1 := A.out.cellOf (H.out.fix (⟨pr, 1, none⟩, .int .i64 (0)) (by simp)).1 (by show pr ≠ b; omega)
  have rf1 := A.out.frozenOf (H.out.fix (⟨pr, 1, none⟩, .int .i64 (0)) (by simp)).1 (H.out.fix (⟨pr, 1, none⟩, .int .i64 (0)) (by simp)).2 (by show pr ≠ b; omega)
  have rr2 := A.out.cellOf (H.out.fix (⟨pr, 2, none⟩, .int .i64 (0)) (by simp)).1 (by show pr ≠ b; omega)
  have rf2 := A.out.frozenOf (H.out.fix (⟨pr, 2, none⟩, .int .i64 (0)) (by simp)).1 (H.out.fix (⟨pr, 2, none⟩, .int .i64 (0)) (by simp)).2 (by show pr ≠ b; omega)
  have HL : Hid (Leaves ⟨b, off, none⟩ W V9) := H.out.leaves.same A.out
  have hp := A.out.cell
  have hpf := A.out.frozen
  have n1 : b ≠ pr := by omega
  have n2 : pr ≠ b := by omega
  have hWr : W.heap.size ≤ pr := by omega
  have HS : Hid _ := step3_chain (f := f) Sg1.out Sg2.out Sg3.out
  clear A H
  cases g3 with
  | true =>
    go_wp2_with (fail)
    refine bodyPost_ret (by simp [results, Tryz.results32, go_sem, rr0, rr1, rr2]; try rfl) rfl ?_
    refine ⟨0, 0, 0, _, rfl, HS.out, (((HL.out.set hWr _).set hWr _).set hWr _).done ?_ ?_⟩
    · simp [go_sem, hp]
    · simp [go_sem, hpf]
  | false =>
    go_wp2_with (fail)
    refine bodyPost_ret (by simp [results, Tryz.results32, go_sem, rr0, rr1, rr2]; try rfl) rfl ?_
    refine ⟨_, _, _, _, rfl, HS.out, (((HL.out.set hWr _).set hWr _).set hWr _).done ?_ ?_⟩
    · simp [go_sem, hp]
    · simp [go_sem, hpf]

theorem unit_chain {f g0 g1 g2 g3 : Bool} {o : Option Int} {x0 x1 x2 nn v0 v1 v2 : Int} (h0 : Step false o nn g0) (h1 : Step g0 (ratio x0 4294967296 nn) v0 g1) (h2 : Step g1 (ratio x1 4294967296 nn) v1 g2) (h3 : Step g2 (ratio x2 4294967296 nn) v2 g3) :
    Step3 f (ratio x0 4294967296 (o.getD 0)) (ratio x1 4294967296 (o.getD 0)) (ratio x2 4294967296 (o.getD 0)) (cond g3 0 v0) (cond g3 0 v1) (cond g3 0 v2) (f || g3) := by
  obtain ⟨rfl, rfl⟩ := h0
  obtain ⟨rfl, rfl⟩ := h1
  obtain ⟨rfl, rfl⟩ := h2
  obtain ⟨rfl, rfl⟩ := h3
  exact unit_step (by simp only [Bool.false_or, Bool.or_assoc])
theorem step1_done {f g : Bool} {o : Option Int} {v : Int} (h : Step false o v g) : Step f o v (f || g) := by
  obtain ⟨rfl, rfl⟩ := h
  exact ⟨rfl, by simp only [Bool.false_or]⟩
set_option maxRecDepth 100000 in
set_option maxHeartbeats 2000000 in
theorem rvdot_law (b off : Nat) (f : Bool) (x0 x1 x2 y0 y1 y2 : Int) (W : World) (hc : W.cell? ⟨b, off, none⟩ = some (.bool f)) (hf : W.frozen? ⟨b, off, none⟩ = false) :
    Calls Tryz.prog 72 #[.pointer (some ⟨b, off, none⟩), .agg #[.int .i64 (x0), .int .i64 (x1), .int .i64 (x2)], .agg #[.int .i64 (y0), .int .i64 (y1), .int .i64 (y2)]] W fun e W' => ∃ v g, e = .returned (.int .i64 v) ∧ Hid (Step f (dot [x0, x1, x2] [y0, y1, y2]) v g) ∧ Hid (After ⟨b, off, none⟩ g W W') := by
  have hbW : b < W.heap.size := World.block_lt_of_cell? _ _ hc
  go_enter Tryz.func72, Tryz.ntmps72
  go_wp2_with (fail)
  refine (rvbare_any _).mono ?_
  rintro e W1 ⟨rfl, rfl⟩
  obtain ⟨U, hU⟩ : ∃ U, U = (((W.alloc (.cells #[.int .i64 (x0), .int .i64 (x1), .int .i64 (x2)] 26)).alloc (.cells #[.int .i64 (y0), .int .i64 (y1), .int .i64 (y2)] 26)).alloc (.cells #[.bool false] 73)) := ⟨_, rfl⟩
  obtain ⟨pa, hpa⟩ : ∃ p, p = W.heap.size := ⟨_, rfl⟩
  obtain ⟨pb, hpb⟩ : ∃ p, p = W.heap.size + 1 := ⟨_, rfl⟩
  obtain ⟨po, hpo⟩ : ∃ p, p = W.heap.size + 1 + 1 := ⟨_, rfl⟩
  have H : Hid (Ho W U ⟨b, off, none⟩ po f false [(⟨pa, 0, none⟩, .int .i64 (x0)), (⟨pa, 1, none⟩, .int .i64 (x1)), (⟨pa, 2, none⟩, .int .i64 (x2)), (⟨pb, 0, none⟩, .int .i64 (y0)), (⟨pb, 1, none⟩, .int .i64 (y1)), (⟨pb, 2, none⟩, .int .i64 (y2))]) := by
    refine ⟨by rw [hU]; exact ((((Leaves.refl _ _).alloc _).alloc _).alloc _), by rw [hU, World.cell?_alloc_past _ _ _ (by simp; omega), World.cell?_alloc_past _ _ _ (by simp; omega), World.cell?_alloc_past _ _ _ hbW]; exact hc, by rw [hU, ((new_after _ _).frozen (by simp; omega)), ((new_after _ _).frozen (by simp; omega)), ((new_after _ _).frozen hbW)]; exact hf, by rw [hU, hpo]; simp [go_sem], by rw [hU, hpo]; simp [go_sem], ?_, ?_, hbW, by omega⟩
    · intro c hc
      simp only [List.mem_cons, List.not_mem_nil, or_false] at hc
      rcases hc with rfl | rfl | rfl | rfl | rfl | rfl <;> rw [hU] <;> dsimp only <;> first | (rw [hpa]; exact ⟨by simp [go_sem], by simp [go_sem]⟩) | (rw [hpb]; exact ⟨by simp [go_sem], by simp [go_sem]⟩)
    · intro c hc
      simp only [List.mem_cons, List.not_mem_nil, or_false] at hc
      rcases hc with rfl | rfl | rfl | rfl | rfl | rfl <;> (dsimp only) <;> omega
  rw [← hU]
  simp only [World.size_alloc]
  rw [← hpo, ← hpb, ← hpa]
  have q1 : pa < pb := by omega
  have q2 : pb < po := by omega
  have q0 : W.heap.size ≤ pa := by omega
  clear hU hc hf hpa hpb hpo
  have k_pa_0 := (H.out.fix (⟨pa, 0, none⟩, .int .i64 (x0)) (by simp)).1
  have k_pa_1 := (H.out.fix (⟨pa, 1, none⟩, .int .i64 (x1)) (by simp)).1
  have k_pa_2 := (H.out.fix (⟨pa, 2, none⟩, .int .i64 (x2)) (by simp)).1
  have k_pb_0 := (H.out.fix (⟨pb, 0, none⟩, .int .i64 (y0)) (by simp)).1
  have k_pb_1 := (H.out.fix (⟨pb, 1, none⟩, .int .i64 (y1)) (by simp)).1
  have k_pb_2 := (H.out.fix (⟨pb, 2, none⟩, .int .i64 (y2)) (by simp)).1
  have l_pa := World.block_lt_of_cell? _ _ k_pa_0
  dsimp only at l_pa
  have l_pb := World.block_lt_of_cell? _ _ k_pb_0
  dsimp only at l_pb
  have ho := H.out.own
  have hof := H.out.ownf
  go_wp2_with (fail)
  refine (rdot_law po 0 false [x0, x1, x2] [y0, y1, y2] (some ⟨U.heap.size, 0, none⟩) (some ⟨U.heap.size + 1, 0, none⟩) 3 3 ((U.alloc (.cells #[.int .i64 x0, .int .i64 x1, .int .i64 x2] 3)).alloc (.cells #[.int .i64 y0, .int .i64 y1, .int .i64 y2] 3)) ((H.out.alloc (.cells #[.int .i64 x0, .int .i64 x1, .int .i64 x2] 3)).alloc (.cells #[.int .i64 y0, .int .i64 y1, .int .i64 y2] 3)).own ((H.out.alloc (.cells #[.int .i64 x0, .int .i64 x1, .int .i64 x2] 3)).alloc (.cells #[.int .i64 y0, .int .i64 y1, .int .i64 y2] 3)).ownf (by simp) (by simp) (row3 (by simp [go_sem]) (by simp [go_sem]) (by simp [go_sem])) (row3 (by simp [go_sem]) (by simp [go_sem]) (by simp [go_sem]))).mono ?_
  rintro e Wg1 ⟨v0, g1, rfl, Sg1, A⟩
  have H : Hid _ := ((H.out.alloc (.cells #[.int .i64 x0, .int .i64 x1, .int .i64 x2] 3)).alloc (.cells #[.int .i64 y0, .int .i64 y1, .int .i64 y2] 3)).after A.out
  clear A k_pa_0 k_pa_1 k_pa_2 k_pb_0 k_pb_1 k_pb_2 l_pa l_pb ho hof
  go_wp2_with (fail)
  refine (done_any b off po f g1 _ H.out.flag H.out.flagf H.out.own (by omega)).mono ?_
  rintro e V9 ⟨rfl, A⟩
  have HA : Hid (After ⟨b, off, none⟩ (f || g1) W V9) := (H.out.leaves.same A.out).done A.out.cell A.out.frozen
  clear A H
  go_wp2_with (fail)
  go_ret
  exact ⟨v0, _, rfl, step1_done Sg1.out, HA⟩

end Go.Proofs.YtocdompopadanaaGreat
