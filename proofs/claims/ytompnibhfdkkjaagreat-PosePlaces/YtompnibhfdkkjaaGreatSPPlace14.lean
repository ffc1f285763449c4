/- Package pose: the box around a core; whether a core can be placed. -/
import Derived.Test.YtompnibhfdkkjaaGreatSPPlace13
import Derived.Test.YtompnibhfdkkjaaGreatSPPlace7
import Derived.Test.YtompnibhfdkkjaaGreatSPPlace8
namespace Go.Proofs.YtompnibhfdkkjaaGreat
open Go.RowKit Go.Shelf
attribute [local go_sem] Oper.semAt_some
set_option linter.unusedVariables false

def Bx.l (b : Bx) : List Value := [.int .i64 b.lo.x, .int .i64 b.lo.y, .int .i64 b.lo.z, .int .i64 b.hi.x, .int .i64 b.hi.y, .int .i64 b.hi.z]
set_option maxHeartbeats 1000000 in
theorem around_any (p : Pt) (w : World) :
    Calls Tryz.prog 35 #[p.v] w fun e W => e = .returned (Bx.v ⟨p, p⟩) ∧ Below w.heap.size w W := by
  obtain ⟨x, y, z⟩ := p
  unfold Pt.v Bx.v
  dsimp only at *
  go_enter Tryz.func35, Tryz.ntmps35
  go_wp2
  refine bodyPost_ret (v := .agg #[.int .i64 x, .int .i64 y, .int .i64 z, .int .i64 x, .int .i64 y, .int .i64 z]) (by simp [results, Tryz.results35, go_sem]) rfl ⟨rfl, ?_⟩
  exact b_step (n_after w _) (n_after _ _)

/-- The box around a list's first k points, and its first one. -/
def spanK (P : List Pt) : Nat → Bx
  | 0 => ⟨pt P 0, pt P 0⟩
  | k + 1 => (spanK P k).join ⟨pt P k, pt P k⟩
def spanP (P : List Pt) (r : Int) : Bx := if P = [] then ⟨Pt.O, Pt.O⟩ else (spanK P P.length).grown r
def coreV (pv av ev : Value) (r : Int) : Value := .agg #[pv, av, ev, .int .i64 r]
def set6 (W : World) (b : Nat) (q : Bx) : World := (((((W.setCell ⟨b, 0, none⟩ (.int .i64 q.lo.x)).setCell ⟨b, 1, none⟩ (.int .i64 q.lo.y)).setCell ⟨b, 2, none⟩ (.int .i64 q.lo.z)).setCell ⟨b, 3, none⟩ (.int .i64 q.hi.x)).setCell ⟨b, 4, none⟩ (.int .i64 q.hi.y)).setCell ⟨b, 5, none⟩ (.int .i64 q.hi.z)
theorem set6_cells {W : World} {b : Nat} {q : Bx} (h : Cells W b q.l) (r : Bx) : Cells (set6 W b r) b r.l := Cells.set6 h _ _ _ _ _ _
theorem set6_apart {W : World} {b b' : Nat} {vs : List Value} (h : Cells W b vs) (hne : b ≠ b') (r : Bx) : Cells (set6 W b' r) b vs := ((((((h.apart hne _ _).apart hne _ _).apart hne _ _).apart hne _ _).apart hne _ _).apart hne _ _)
theorem set6_below {n : Nat} {w W : World} {b : Nat} (h : Below n w W) (hb : n ≤ b) (r : Bx) : Below n w (set6 W b r) := (((((h.setCell hb _).setCell hb _).setCell hb _).setCell hb _).setCell hb _).setCell hb _
theorem set6_keeps (W : World) (b n : Nat) (r : Bx) : KeepsFrom n W (set6 W b r) := (((((((KeepsOthers.setCell W _ _).from n).trans ((KeepsOthers.setCell _ _ _).from n)).trans ((KeepsOthers.setCell _ _ _).from n)).trans ((KeepsOthers.setCell _ _ _).from n)).trans ((KeepsOthers.setCell _ _ _).from n)).trans ((KeepsOthers.setCell _ _ _).from n))
theorem set1_keepO {S : Nat → Prop} (W : World) (b o : Nat) (v : Value) (hb : ¬ S b) : KeepO S W (W.setCell ⟨b, o, none⟩ v) := ⟨by simp [World.setCell], fun k hk _ => Below.heap_setCell _ _ _ k (fun e => hb (by rw [show b = k from e.symm]; exact hk))⟩
theorem set6_keepO {S : Nat → Prop} (W : World) (b : Nat) (r : Bx) (hb : ¬ S b) : KeepO S W (set6 W b r) := (((((set1_keepO W b 0 _ hb).trans (set1_keepO _ b 1 _ hb)).trans (set1_keepO _ b 2 _ hb)).trans (set1_keepO _ b 3 _ hb)).trans (set1_keepO _ b 4 _ hb)).trans (set1_keepO _ b 5 _ hb)

set_option maxRecDepth 100000 in
set_option maxHeartbeats 8000000 in
theorem span_any (P A E : List Pt) (r : Int) (pv av ev : Value) (w : World) (hp : Lies w pv P) (ha : Lies w av A) (he : Lies w ev E) :
    Calls Tryz.prog 12 #[coreV pv av ev r] w fun e W => e = .returned (spanP P r).v ∧ Below w.heap.size w W := by
  obtain ⟨o, cap, rfl, hlc, hcm, hcell⟩ := hp.form
  obtain ⟨oa, ca, rfl, _⟩ := ha.form
  obtain ⟨oe, ce, rfl, _⟩ := he.form
  have HV : Hid _ := hp
  clear hp ha he
  unfold coreV
  by_cases h0 : P = []
  · subst h0
    have e9 : spanP [] r = ⟨Pt.O, Pt.O⟩ := by simp [spanP]
    rw [e9]
    unfold Bx.v Pt.O
    dsimp only
    clear hcell
    refine (callsIn_wide (n := 9)).1 ?_
    refine callsIn_of_wp_marks Tryz.func12 rfl trivial ?_ rfl
    simp only [Tryz.ntmps12, List.size_toArray, List.length_cons, List.length_nil, Nat.reduceAdd, Nat.reduceSub, Array.replicate_succ, Array.replicate_zero, List.push_toArray, List.append_toArray, List.nil_append, List.cons_append]
    gi_wp2
    exact ⟨.agg #[.int .i64 0, .int .i64 0, .int .i64 0, .int .i64 0, .int .i64 0, .int .i64 0], by simp [results, Tryz.results12, go_sem], rfl, b_step (n_after _ _) (n_after _ _)⟩
  · have hlen : 0 < P.length := List.length_pos_iff.2 h0
    obtain ⟨g, off, rfl, x0, x1, x2⟩ := hcell 0 hlen
    have e9 : spanP P r = (spanK P P.length).grown r := by simp [spanP, h0]
    rw [e9]
    have HAR : Hid _ := fun w' => around_any (pt P 0) w'
    have HG : Hid _ := fun w' => grown_any (spanK P P.length) r w'
    simp only [Nat.zero_mul, Nat.add_zero] at x0 x1 x2
    have gx0 : Hid _ := x0
    have HJ : Hid _ := fun (k : Nat) (w' : World) => join_any (spanK P k) ⟨pt P k, pt P k⟩ w'
    have e8 : spanK P 0 = ⟨pt P 0, pt P 0⟩ := rfl
    rw [← e8] at HAR
    unfold Pt.v at HAR
    refine (callsIn_wide (n := 9)).1 ?_
    have h1 : 1 ≤ 9 := by omega
    refine callsIn_of_wp_marks Tryz.func12 rfl trivial ?_ rfl
    simp only [Tryz.ntmps12, List.size_toArray, List.length_cons, List.length_nil, Nat.reduceAdd, Nat.reduceSub, Array.replicate_succ, Array.replicate_zero, List.push_toArray, List.append_toArray, List.nil_append, List.cons_append]
    obtain ⟨V, hV⟩ : ∃ V, V = (w.alloc (.cells #[.slice (some ⟨g, off, none⟩) P.length cap, .slice oa A.length ca, .slice oe E.length ce, .int .i64 r] 24)).alloc (.cells #[.int .i64 0, .int .i64 0, .int .i64 0, .int .i64 0, .int .i64 0, .int .i64 0] 39) := ⟨_, rfl⟩
    have hBV : Hid (Below w.heap.size w V) := by show Below _ _ _; rw [hV]; exact b_step (n_after _ _) (n_after _ _)
    have C1 : Hid (Cells V w.heap.size [.slice (some ⟨g, off, none⟩) P.length cap, .slice oa A.length ca, .slice oe E.length ce, .int .i64 r]) := by show Cells _ _ _; rw [hV]; exact (Cells.new w _ _).step (n_after _ _)
    have C2 : Hid (Cells V (w.heap.size + 1) (Bx.l ⟨Pt.O, Pt.O⟩)) := by show Cells _ _ _; rw [hV]; have := Cells.new (w.alloc (.cells #[.slice (some ⟨g, off, none⟩) P.length cap, .slice oa A.length ca, .slice oe E.length ce, .int .i64 r] 24)) (Bx.l ⟨Pt.O, Pt.O⟩) 39; rwa [World.size_alloc] at this
    have y0 := c_after hBV.out x0
    have y1 := c_after hBV.out x1
    have y2 := c_after hBV.out x2
    rw [hV] at y0 y1 y2
    clear x0 x1 x2 e9
    gi_wp2
    rw [← hV]
    refine ⟨trivial, ?_⟩
    gi_at_call 35
    refine (callsIn_wide.2 (HAR.out _)).mono ?_
    rintro e V1 ⟨rfl, hb⟩
    have hB1 : Hid _ := b_step hBV.out hb
    have D1 : Hid _ := C1.out.step hb
    have D2 : Hid _ := C2.out.step hb
    clear hV y0 y1 y2 C1 C2 hb hBV HAR
    have s0 := (D1.out 0 _ rfl).1
    have l1 : w.heap.size < V1.heap.size := Cells.lt D1.out
    have l2 : w.heap.size + 1 < V1.heap.size := Cells.lt D2.out
    clear e8
    obtain ⟨q0, hq0⟩ : ∃ q, q = spanK P 0 := ⟨_, rfl⟩
    rw [← hq0]
    have Hq0 : Hid _ := hq0
    clear hq0
    unfold Bx.v
    gi_wp2_with (refine ⟨trivial, ?_⟩; gi_at_call 36; refine (callsIn_wide.2 (each_in_box _ _ _ _ _ _ _)).mono ?_; rintro e w' ⟨rfl, rfl⟩)
    obtain ⟨bb, hbb⟩ : ∃ n, n = V1.heap.size := ⟨_, rfl⟩
    obtain ⟨W0, hW0⟩ : ∃ W0, W0 = ((V1.alloc (.cells #[.int .i64 q0.lo.x, .int .i64 q0.lo.y, .int .i64 q0.lo.z, .int .i64 q0.hi.x, .int .i64 q0.hi.y, .int .i64 q0.hi.z] 39)).alloc (.cells #[.slice (some ⟨g, off, none⟩) P.length cap] 22)).alloc (.cells #[.func (.func 35) #[] #[]] 79) := ⟨_, rfl⟩
    have hsz : W0.heap.size = bb + 3 := by rw [hW0, hbb]; simp
    have b9 : Below V1.heap.size V1 W0 := by rw [hW0]; exact b_step (b_step (n_after _ _) (n_after _ _)) (n_after _ _)
    have cb : Cells W0 bb q0.l := by rw [hW0, hbb]; exact ((Cells.new V1 q0.l _).step (n_after _ _)).step (n_after _ _)
    have cp : W0.cell? ⟨bb + 1, 0, none⟩ = some (.slice (some ⟨g, off, none⟩) P.length cap) := by rw [hW0, hbb]; simp [go_sem]
    have cf : W0.cell? ⟨bb + 1 + 1, 0, none⟩ = some (.func (.func 35) #[] #[]) := by rw [hW0, hbb]; simp [go_sem]
    rw [← hW0, ← hbb]
    have hB0 : Hid _ := b_step hB1.out b9
    have E1 : Hid _ := Cells.step D1.out b9
    have E2 : Hid _ := Cells.step D2.out b9
    have HV0 : Hid _ := HV.out.below hB0.out
    have l3 : w.heap.size + 1 < bb := by omega
    have hgb : g < w.heap.size := World.block_lt_of_cell? _ _ gx0.out
    clear hW0 hbb b9 D1 D2 hB1 s0 l1 l2
    rw [Hq0.out] at cb
    refine' range_n h1 (gf := 67) (lb := #[.pointer (some ⟨bb + 1, 0, none⟩), .pointer (some ⟨bb + 1 + 1, 0, none⟩)]) rfl (enters_of Tryz.func67 (by kernel_rfl) rfl)
      (row := none) (S := fun b => b < W0.heap.size ∧ b ≠ bb) (St := fun _ _ => True)
      (each_tells_box (9 - 1) (bb + 1) (bb + 1 + 1) P _ cap 35 #[] #[] (fun k => Bx.v ⟨pt P k, pt P k⟩) none (fun b => b < W0.heap.size ∧ b ≠ bb) (fun _ _ => True) W0
        (enters_of Tryz.func35 (by kernel_rfl) rfl) HV0.out cp cf (fun q e _ => by cases e; exact ⟨⟨by show g < _; omega, by show g ≠ _; omega⟩, by simp⟩) ⟨⟨by omega, by omega⟩, by simp⟩ (fun _ h => h.1)
        (fun _ _ => trivial) (fun _ _ _ _ _ => trivial)
        (fun k V hk hs => (around_any (pt P k) V).mono fun e V' h => ⟨h.1, below_grown h.2 none, trivial⟩))
      (fun _ h => h.1) (fun r e => by cases e) (fun _ _ _ _ _ _ _ => trivial) (fun _ => rfl)
      (fun k V => Below w.heap.size w V ∧ Cells V bb (spanK P k).l ∧ Cells V w.heap.size [.slice (some ⟨g, off, none⟩) P.length cap, .slice oa A.length ca, .slice oe E.length ce, .int .i64 r] ∧ Cells V (w.heap.size + 1) (Bx.l ⟨Pt.O, Pt.O⟩)) (fun _ _ _ => False)
      (fun k X Y r2 hs hg hr => ⟨gbelow hs.1 hg (fun r e => (hr r e).1) (by omega), hs.2.1.grew hg (fun r e => by have := (hr r e).1; omega), hs.2.2.1.grew hg (fun r e => by have := (hr r e).1; omega), hs.2.2.2.grew hg (fun r e => by have := (hr r e).1; omega)⟩) (fun _ _ _ _ _ hs _ _ => hs)
      (fun k X Y hs hg => ⟨gbelow (n := W0.heap.size) hs.1 hg (fun r e => by cases e) (by omega), hs.2.1.grew hg (fun r e => by cases e), hs.2.2.1.grew hg (fun r e => by cases e), hs.2.2.2.grew hg (fun r e => by cases e)⟩) ⟨hB0.out, cb, E1.out, E2.out⟩ _ (fun k => some (.cells #[.int .i64 (pt P k).x, .int .i64 (pt P k).y, .int .i64 (pt P k).z, .int .i64 (pt P k).x, .int .i64 (pt P k).y, .int .i64 (pt P k).z] 39)) ?assign ?body ?done ?stop
    case assign =>
      intro l k W nb K hk hnb hK
      unfold Bx.v
      gi_wp2
      rw [← hnb]
      exact hK
    case body =>
      rintro l k V nb hk ⟨hB, hb9, hc1, hc2⟩ hnb hob
      have hob := hob _ rfl
      have HJk : Hid _ := HJ.out k
      have HK : Hid (spanK P (k + 1) = (spanK P k).join ⟨pt P k, pt P k⟩) := rfl
      obtain ⟨q2, hq2⟩ : ∃ q, (spanK P k).join ⟨pt P k, pt P k⟩ = q := ⟨_, rfl⟩
      rw [hq2] at HJk HK
      clear hq2
      obtain ⟨q1, hq1⟩ : ∃ q, spanK P k = q := ⟨_, rfl⟩
      rw [hq1] at HJk hb9
      clear hq1
      have v0 : V.cell? ⟨nb, 0, none⟩ = some (.int .i64 (pt P k).x) := by simp [World.cell?, hob]
      have v1 : V.cell? ⟨nb, 1, none⟩ = some (.int .i64 (pt P k).y) := by simp [World.cell?, hob]
      have v2 : V.cell? ⟨nb, 2, none⟩ = some (.int .i64 (pt P k).z) := by simp [World.cell?, hob]
      have v3 : V.cell? ⟨nb, 3, none⟩ = some (.int .i64 (pt P k).x) := by simp [World.cell?, hob]
      have v4 : V.cell? ⟨nb, 4, none⟩ = some (.int .i64 (pt P k).y) := by simp [World.cell?, hob]
      have v5 : V.cell? ⟨nb, 5, none⟩ = some (.int .i64 (pt P k).z) := by simp [World.cell?, hob]
      have u0 := (hb9 0 _ rfl).1
      have u1 := (hb9 1 _ rfl).1
      have u2 := (hb9 2 _ rfl).1
      have u3 := (hb9 3 _ rfl).1
      have u4 := (hb9 4 _ rfl).1
      have u5 := (hb9 5 _ rfl).1
      have hH : Hid _ := And.intro hB (And.intro hb9 (And.intro hc1 hc2))
      clear hB hb9 hc1 hc2 hob
      unfold Bx.v at HJk
      gi_wp2
      refine ⟨trivial, ?_⟩
      gi_at_call 37
      refine (callsIn_wide.2 (HJk.out _)).mono ?_
      rintro e V2 ⟨rfl, hb⟩
      obtain ⟨hB, hb9, hc1, hc2⟩ := hH.out
      have hb8 := hb9.step hb
      have t0 := hb8 0 _ rfl
      have t1 := hb8 1 _ rfl
      have t2 := hb8 2 _ rfl
      have t3 := hb8 3 _ rfl
      have t4 := hb8 4 _ rfl
      have t5 := hb8 5 _ rfl
      obtain ⟨t0, t0f⟩ := t0
      obtain ⟨t1, t1f⟩ := t1
      obtain ⟨t2, t2f⟩ := t2
      obtain ⟨t3, t3f⟩ := t3
      obtain ⟨t4, t4f⟩ := t4
      obtain ⟨t5, t5f⟩ := t5
      have HC : Hid (KeepsFrom W0.heap.size V (set6 V2 bb q2) ∧ KeepO (fun b => b < W0.heap.size ∧ b ≠ bb) V (set6 V2 bb q2) ∧ Below w.heap.size w (set6 V2 bb q2) ∧ Cells (set6 V2 bb q2) bb q2.l ∧ Cells (set6 V2 bb q2) w.heap.size [.slice (some ⟨g, off, none⟩) P.length cap, .slice oa A.length ca, .slice oe E.length ce, .int .i64 r] ∧ Cells (set6 V2 bb q2) (w.heap.size + 1) (Bx.l ⟨Pt.O, Pt.O⟩)) :=
        ⟨((KeepsOthers.of_grownBy (below_grown hb none) (fun j o e ho => by cases e)).from _).trans (set6_keeps _ _ _ _), (KeepO.grown (below_grown hb none) (fun b _ e => by cases e)).trans (set6_keepO _ _ _ (fun h => h.2 rfl)), set6_below (b_step hB hb) (by omega) _, set6_cells hb8 _, set6_apart (hc1.step hb) (by omega) _, set6_apart (hc2.step hb) (by omega) _⟩
      clear hb8 hb hH hB hb9 hc1 hc2 u0 u1 u2 u3 u4 u5 v0 v1 v2 v3 v4 v5
      unfold set6 at HC
      gi_wp2
      obtain ⟨k1, k2, k3, k4, k5, k6⟩ := HC.out
      exact ⟨k1, k2, k3, by rw [HK.out]; exact k4, k5, k6⟩
    case done =>
      rintro D V hD ⟨hB, hb9, hc1, hc2⟩ _ hK
      obtain ⟨q1, hq1⟩ : ∃ q, spanK P P.length = q := ⟨_, rfl⟩
      rw [hq1] at HG hb9
      obtain ⟨q2, hq2⟩ : ∃ q, q1.grown r = q := ⟨_, rfl⟩
      rw [hq2] at HG
      have HQ : Hid ((spanK P P.length).grown r = q2) := by show _ = _; rw [hq1]; exact hq2
      clear hq2 hq1
      have u0 := (hb9 0 _ rfl).1
      have u1 := (hb9 1 _ rfl).1
      have u2 := (hb9 2 _ rfl).1
      have u3 := (hb9 3 _ rfl).1
      have u4 := (hb9 4 _ rfl).1
      have u5 := (hb9 5 _ rfl).1
      have rr := (hc1 3 _ rfl).1
      have hH : Hid _ := And.intro hB hc2
      have HK : Hid _ := hK
      clear hB hc2 hc1 hb9 hK
      unfold Bx.v at HG
      gi_wp2
      refine ⟨trivial, ?_⟩
      gi_at_call 38
      refine (callsIn_wide.2 (HG.out _)).mono ?_
      rintro e V2 ⟨rfl, hb⟩
      obtain ⟨hB, hc2⟩ := hH.out
      have hb8 := hc2.step hb
      have hK : V2.heap[D]? = some (.deferred (some [])) := (hb.block D (Array.getElem?_eq_some_iff.1 HK.out).1).trans HK.out
      have HB : Hid (Below w.heap.size w (set6 V2 (w.heap.size + 1) q2)) := set6_below (b_step hB hb) (by omega) _
      have HC : Hid (Cells (set6 V2 (w.heap.size + 1) q2) (w.heap.size + 1) q2.l) := set6_cells hb8 _
      have t0 := hb8 0 _ rfl
      have t1 := hb8 1 _ rfl
      have t2 := hb8 2 _ rfl
      have t3 := hb8 3 _ rfl
      have t4 := hb8 4 _ rfl
      have t5 := hb8 5 _ rfl
      obtain ⟨t0, t0f⟩ := t0
      obtain ⟨t1, t1f⟩ := t1
      obtain ⟨t2, t2f⟩ := t2
      obtain ⟨t3, t3f⟩ := t3
      obtain ⟨t4, t4f⟩ := t4
      obtain ⟨t5, t5f⟩ := t5
      clear hb8 hb hH hB hc2 u0 u1 u2 u3 u4 u5 rr
      have hD9 : (set6 V2 (w.heap.size + 1) q2).heap[D]? = some (.deferred (some [])) := ((set6_keeps V2 (w.heap.size + 1) 0 q2).same D _ (Nat.zero_le _) hK rfl)
      have HD9 : Hid _ := hD9
      clear hD9 hK HK
      unfold set6 at HB HC HD9
      gi_wp2
      refine ⟨by simp, .inl ⟨_, _, rfl, run_takeDeferred HD9.out, ?_⟩⟩
      have hC9 := Cells.grew HC.out (grownBy_putObj' _ D (.deferred none)) (fun r e => by cases e; omega)
      obtain ⟨z0, z1, z2, z3, z4, z5⟩ : _ ∧ _ ∧ _ ∧ _ ∧ _ ∧ _ := ⟨(hC9 0 _ rfl).1, (hC9 1 _ rfl).1, (hC9 2 _ rfl).1, (hC9 3 _ rfl).1, (hC9 4 _ rfl).1, (hC9 5 _ rfl).1⟩
      exact ⟨q2.v, by simp [results, Tryz.results12, go_sem, z0, z1, z2, z3, z4, z5, Bx.v], by rw [HQ.out], HB.out.grown (grownBy_putObj' _ D _) HB.out.size (fun k e => by cases e; omega)⟩
    case stop =>
      rintro D c k V _ _ h _
      exact h.elim
end Go.Proofs.YtompnibhfdkkjaaGreat
namespace Go.Proofs.YtompnibhfdkkjaaGreat
open Go.RowKit Go.Shelf
set_option linter.unusedVariables false

def placeableP (P A E : List Pt) : Bool := decide (0 < P.length) && (P.all (fun p => p.win 1048576) && (A.all (fun p => p.win 1048576) && E.all (fun p => p.win 1048576)))
set_option maxHeartbeats 2000000 in
set_option maxRecDepth 100000 in
theorem placeable_any (P A E : List Pt) (r : Int) (pv av ev : Value) (w : World) (hp : Lies w pv P) (ha : Lies w av A) (he : Lies w ev E) :
    Calls Tryz.prog 18 #[coreV pv av ev r] w fun e W => e = .returned (.bool (placeableP P A E)) ∧ Below w.heap.size w W := by
  have H1 : Hid (∀ W, Below w.heap.size w W → Calls Tryz.prog 24 #[pv, .int .i64 1048576] W fun e V => e = .returned (.bool (P.all fun p => p.win 1048576)) ∧ Below W.heap.size W V) := fun W hb => allWithin_any P pv _ W (hp.below hb)
  have H2 : Hid (∀ W, Below w.heap.size w W → Calls Tryz.prog 24 #[av, .int .i64 1048576] W fun e V => e = .returned (.bool (A.all fun p => p.win 1048576)) ∧ Below W.heap.size W V) := fun W hb => allWithin_any A av _ W (ha.below hb)
  have H3 : Hid (∀ W, Below w.heap.size w W → Calls Tryz.prog 24 #[ev, .int .i64 1048576] W fun e V => e = .returned (.bool (E.all fun p => p.win 1048576)) ∧ Below W.heap.size W V) := fun W hb => allWithin_any E ev _ W (he.below hb)
  obtain ⟨op, cp, rfl, hlc, hcm, _⟩ := hp.form
  obtain ⟨oa, ca, rfl, _⟩ := ha.form
  obtain ⟨oe, ce, rfl, _⟩ := he.form
  clear hp ha he
  have HP : Hid (placeableP P A E = (decide (0 < P.length) && (P.all (fun p => p.win 1048576) && (A.all (fun p => p.win 1048576) && E.all (fun p => p.win 1048576))))) := rfl
  obtain ⟨R9, hR9⟩ : ∃ R9, placeableP P A E = R9 := ⟨_, rfl⟩
  rw [hR9] at HP ⊢
  clear hR9
  generalize (P.all fun p => p.win 1048576) = b1 at *
  generalize (A.all fun p => p.win 1048576) = b2 at *
  generalize (E.all fun p => p.win 1048576) = b3 at *
  unfold coreV
  have n0 : Hid (Below w.heap.size w (w.alloc (.cells #[.slice op P.length cp, .slice oa A.length ca, .slice oe E.length ce, .int .i64 r] 24))) := n_after _ _
  have c0 : Hid (Cells (w.alloc (.cells #[.slice op P.length cp, .slice oa A.length ca, .slice oe E.length ce, .int .i64 r] 24)) w.heap.size [.slice op P.length cp, .slice oa A.length ca, .slice oe E.length ce, .int .i64 r]) := Cells.new _ _ _
  by_cases hl : 0 < P.length
  · rw [decide_eq_true hl] at HP
    have hl' : decide ((P.length : Int) > 0) = true := decide_eq_true (by omega)
    go_enter Tryz.func18, Tryz.ntmps18
    go_wp2_with (fail)
    refine Calls.mono (H1.out _ n0.out) ?_
    rintro e V1 ⟨rfl, hb⟩
    have n1 : Hid _ := b_step n0.out hb
    have c1 : Hid _ := Cells.step c0.out hb
    clear hb n0 c0 H1
    have z1 := (c1.out 1 _ rfl).1
    have z2 := (c1.out 2 _ rfl).1
    cases b1 with
    | false =>
      have e9 : R9 = false := HP.out
      subst e9
      go_wp2_with (fail)
      go_ret
      exact ⟨rfl, n1.out⟩
    | true =>
      go_wp2_with (fail)
      refine Calls.mono (H2.out _ n1.out) ?_
      rintro e V2 ⟨rfl, hb⟩
      have n2 : Hid _ := b_step n1.out hb
      have z2 := c_after hb z2
      clear hb n1 c1 H2 z1
      cases b2 with
      | false =>
        have e9 : R9 = false := HP.out
        subst e9
        go_wp2_with (fail)
        go_ret
        exact ⟨rfl, n2.out⟩
      | true =>
        go_wp2_with (fail)
        refine Calls.mono (H3.out _ n2.out) ?_
        rintro e V3 ⟨rfl, hb⟩
        have n3 : Hid _ := b_step n2.out hb
        clear hb n2 H3 z2
        have e9 : R9 = b3 := HP.out
        subst e9
        go_wp2_with (fail)
        go_ret
        exact ⟨rfl, n3.out⟩
  · rw [decide_eq_false hl] at HP
    have hl' : P.length = 0 := by omega
    have e9 : R9 = false := HP.out
    subst e9
    rw [hl'] at n0 c0 H1 ⊢
    clear hl' hl
    go_enter Tryz.func18, Tryz.ntmps18
    go_wp2_with (fail)
    go_ret
    exact ⟨rfl, n0.out⟩

theorem Lies.grown {A B : World} {v : Value} {Ls : List Pt} {fb : Nat} (h : Lies A v Ls) (hg : A.grownBy B (some fb)) (hne : ∀ q n c, v = .slice (some q) n c → Ls ≠ [] → q.block ≠ fb) : Lies B v Ls := by
  obtain ⟨o, cap, e, h1, h2, h3⟩ := h.form
  refine ⟨o, cap, e, h1, h2, fun i hi => ?_⟩
  obtain ⟨g, off, e', a, b, c⟩ := h3 i hi
  have hf : g ≠ fb := hne ⟨g, off, none⟩ _ _ (by rw [e, e']) (fun e0 => by rw [e0] at hi; simp at hi)
  have hbl : B.heap[g]? = A.heap[g]? := hg.block g (World.block_lt_of_cell? _ _ a) (fun e => hf (by simpa using e))
  exact ⟨g, off, e', (World.cell?_of_block (w := A) hbl).trans a, (World.cell?_of_block (w := A) hbl).trans b, (World.cell?_of_block (w := A) hbl).trans c⟩
theorem Lies.lt {A : World} {Ls : List Pt} {q : Addr} {n c : Nat} (h : Lies A (.slice (some q) n c) Ls) (h0 : Ls ≠ []) : q.block < A.heap.size := by
  obtain ⟨o, cap, e, h1, h2, h3⟩ := h.form
  obtain ⟨g, off, e', a, _⟩ := h3 0 (List.length_pos_iff.2 h0)
  simp only [Value.slice.injEq] at e
  rw [← e.1] at e'
  cases e'
  exact World.block_lt_of_cell? _ _ a

/-- While a core is placed. -/
structure PG (V : World) (cb fb : Nat) (pv av ev : Value) (r : Int) (f b1 b2 b3 : Bool) (m : M9) (t : Pt) (P A E : List Pt) (g4 g5 g9 g13 g16 g17 : Value) (l4 l5 l9 l13 l16 l17 l18 : Bool) (w : World) : Prop where
  gr : V.grownBy w (some fb)
  cr : Cells w cb [pv, av, ev, .int .i64 r]
  fr : Cells w fb (frL (f || (l5 && b1) || (l9 && b2) || (l13 && b3)) m t)
  o5 : l5 = true → w.ownsRow V.heap.size 31 3 g5 P.length (fl3 P)
  o9 : l9 = true → w.ownsRow V.heap.size 31 3 g9 A.length (fl3 A)
  o13 : l13 = true → w.ownsRow V.heap.size 31 3 g13 E.length (fl3 E)
  s59 : l5 = true → l9 = true → ∀ k, g5.ownBlock = some k → g9.ownBlock ≠ some k
  s53 : l5 = true → l13 = true → ∀ k, g5.ownBlock = some k → g13.ownBlock ≠ some k
  s93 : l9 = true → l13 = true → ∀ k, g9.ownBlock = some k → g13.ownBlock ≠ some k
  ea : l4 = true → l5 = false → ∃ b, g4 = .func (.func 53) #[] #[.pointer (some ⟨b, 0, none⟩), .pointer (some ⟨b + 1, 0, none⟩)] ∧ V.heap.size ≤ b ∧ w.cell? ⟨b, 0, none⟩ = some pv ∧ w.cell? ⟨b + 1, 0, none⟩ = some (.func (.func 22) #[.pointer (some ⟨fb, 0, none⟩)] #[])
  bd : l16 = true → g16 = .agg #[g5, g9, g13, .int .i64 r]
  pd : l17 = true → ∃ b cs, g17 = .pointer (some ⟨b, 0, none⟩) ∧ V.heap.size ≤ b ∧ w.heap[b]? = some (.cells cs 24 (0, 0)) ∧ cs.size = 4 ∧ (l18 = true → cs = #[g5, g9, g13, .int .i64 r])
theorem own_grown {A B : World} {base n : Nat} {u : Value} {xs : List Value} {fb : Nat} (h : A.ownsRow base 31 3 u n xs) (hg : A.grownBy B (some fb)) (hf : fb < base) : B.ownsRow base 31 3 u n xs := row_turn h hg (fun r e => by cases e; exact hf)
section
variable {V : World} {cb fb : Nat} {pv av ev : Value} {r : Int} {f b1 b2 b3 : Bool} {m : M9} {t : Pt} {P A E : List Pt} {g4 g5 g9 g13 g16 g17 : Value} {l4 l5 l9 l13 l16 l17 l18 : Bool} {w w' : World}
/-- A call that turns the frame's block alone. -/
theorem PG.on (h : PG V cb fb pv av ev r f b1 b2 b3 m t P A E g4 g5 g9 g13 g16 g17 l4 l5 l9 l13 l16 l17 l18 w) (hg : w.grownBy w' (some fb)) (hfV : fb < V.heap.size) (hcf : cb ≠ fb) :
    V.grownBy w' (some fb) ∧ Cells w' cb [pv, av, ev, .int .i64 r] ∧ (l5 = true → w'.ownsRow V.heap.size 31 3 g5 P.length (fl3 P)) ∧ (l9 = true → w'.ownsRow V.heap.size 31 3 g9 A.length (fl3 A)) ∧ (l13 = true → w'.ownsRow V.heap.size 31 3 g13 E.length (fl3 E)) ∧
    (l17 = true → ∃ b cs, g17 = .pointer (some ⟨b, 0, none⟩) ∧ V.heap.size ≤ b ∧ w'.heap[b]? = some (.cells cs 24 (0, 0)) ∧ cs.size = 4 ∧ (l18 = true → cs = #[g5, g9, g13, .int .i64 r])) ∧ (l4 = true → l5 = false → ∃ b, g4 = .func (.func 53) #[] #[.pointer (some ⟨b, 0, none⟩), .pointer (some ⟨b + 1, 0, none⟩)] ∧ V.heap.size ≤ b ∧ w'.cell? ⟨b, 0, none⟩ = some pv ∧ w'.cell? ⟨b + 1, 0, none⟩ = some (.func (.func 22) #[.pointer (some ⟨fb, 0, none⟩)] #[])) :=
  ⟨grown_le h.gr hg (fun r e => .inr e), h.cr.grew hg (fun r e => by cases e; exact fun e => hcf e.symm), fun e => own_grown (h.o5 e) hg hfV, fun e => own_grown (h.o9 e) hg hfV, fun e => own_grown (h.o13 e) hg hfV, fun e => by
    obtain ⟨b, cs, h1, h2, h3, h4⟩ := h.pd e
    exact ⟨b, cs, h1, h2, (hg.block b (Array.getElem?_eq_some_iff.1 h3).1 (fun e => by simp at e; omega)).trans h3, h4⟩, fun e e' => by
    obtain ⟨b, h1, h2, h3, h4⟩ := h.ea e e'
    exact ⟨b, h1, h2, hg.cell h3 (fun e => by simp at e; omega), hg.cell h4 (fun e => by simp at e; omega)⟩⟩
theorem PG.step (h : PG V cb fb pv av ev r f b1 b2 b3 m t P A E g4 g5 g9 g13 g16 g17 l4 l5 l9 l13 l16 l17 l18 w) (hb : Below w.heap.size w w') (hfV : fb < V.heap.size) (hcf : cb ≠ fb) : PG V cb fb pv av ev r f b1 b2 b3 m t P A E g4 g5 g9 g13 g16 g17 l4 l5 l9 l13 l16 l17 l18 w' := by
  obtain ⟨x1, x2, x3, x4, x5, x6, x7⟩ := h.on (below_grown hb _) hfV hcf
  exact ⟨x1, x2, h.fr.step hb, x3, x4, x5, h.s59, h.s53, h.s93, x7, h.bd, x6⟩
theorem apart_new {u u' : Value} {n b b' : Nat} {xs ys : List Value} {k : Nat} (h : w.ownsRow b 31 3 u n xs) (h' : w'.ownsRow w.heap.size 31 3 u' k ys) : ∀ j, u.ownBlock = some j → u'.ownBlock ≠ some j := fun j e e' => by
  have := (h.lt j e).2; have := (h'.lt j e').1; omega
theorem PG.get5 (h : PG V cb fb pv av ev r f b1 b2 b3 m t P A E g4 g5 g9 g13 g16 g17 l4 false l9 l13 l16 l17 l18 w) (hg : w.grownBy w' (some fb)) (hfV : fb < V.heap.size) (hcf : cb ≠ fb) {u : Value} (hu : w'.ownsRow w.heap.size 31 3 u P.length (fl3 P)) (hf : Cells w' fb (frL ((f || (false && b1) || (l9 && b2) || (l13 && b3)) || b1) m t)) (h16 : l16 = false) (h18 : l18 = false) :
    PG V cb fb pv av ev r f b1 b2 b3 m t P A E g4 u g9 g13 g16 g17 l4 true l9 l13 l16 l17 l18 w' := by
  obtain ⟨x1, x2, x3, x4, x5, x6, x7⟩ := h.on hg hfV hcf
  refine ⟨x1, x2, ?_, fun _ => own_le hu h.gr.size, x4, x5, fun _ e k e1 e2 => apart_new (b' := 0) (h.o9 e) hu k e2 e1, fun _ e k e1 e2 => apart_new (b' := 0) (h.o13 e) hu k e2 e1, h.s93, fun _ e => (by cases e), fun e => (by rw [h16] at e; cases e), fun e => ?_⟩
  · revert hf; cases f <;> cases b1 <;> cases l9 <;> cases b2 <;> cases l13 <;> cases b3 <;> exact id
  · obtain ⟨b, cs, y1, y2, y3, y4, y5⟩ := x6 e
    exact ⟨b, cs, y1, y2, y3, y4, fun e => (by rw [h18] at e; cases e)⟩
theorem PG.get9 (h : PG V cb fb pv av ev r f b1 b2 b3 m t P A E g4 g5 g9 g13 g16 g17 l4 l5 false l13 l16 l17 l18 w) (hg : w.grownBy w' (some fb)) (hfV : fb < V.heap.size) (hcf : cb ≠ fb) {u : Value} (hu : w'.ownsRow w.heap.size 31 3 u A.length (fl3 A)) (hf : Cells w' fb (frL ((f || (l5 && b1) || (false && b2) || (l13 && b3)) || b2) m t)) (h16 : l16 = false) (h18 : l18 = false) :
    PG V cb fb pv av ev r f b1 b2 b3 m t P A E g4 g5 u g13 g16 g17 l4 l5 true l13 l16 l17 l18 w' := by
  obtain ⟨x1, x2, x3, x4, x5, x6, x7⟩ := h.on hg hfV hcf
  refine ⟨x1, x2, ?_, x3, fun _ => own_le hu h.gr.size, x5, fun e _ k e1 e2 => apart_new (b' := 0) (h.o5 e) hu k e1 e2, h.s53, fun _ e k e1 e2 => apart_new (b' := 0) (h.o13 e) hu k e2 e1, x7, fun e => (by rw [h16] at e; cases e), fun e => ?_⟩
  · revert hf; cases f <;> cases b1 <;> cases l5 <;> cases b2 <;> cases l13 <;> cases b3 <;> exact id
  · obtain ⟨b, cs, y1, y2, y3, y4, y5⟩ := x6 e
    exact ⟨b, cs, y1, y2, y3, y4, fun e => (by rw [h18] at e; cases e)⟩
theorem PG.get13 (h : PG V cb fb pv av ev r f b1 b2 b3 m t P A E g4 g5 g9 g13 g16 g17 l4 l5 l9 false l16 l17 l18 w) (hg : w.grownBy w' (some fb)) (hfV : fb < V.heap.size) (hcf : cb ≠ fb) {u : Value} (hu : w'.ownsRow w.heap.size 31 3 u E.length (fl3 E)) (hf : Cells w' fb (frL ((f || (l5 && b1) || (l9 && b2) || (false && b3)) || b3) m t)) (h16 : l16 = false) (h18 : l18 = false) :
    PG V cb fb pv av ev r f b1 b2 b3 m t P A E g4 g5 g9 u g16 g17 l4 l5 l9 true l16 l17 l18 w' := by
  obtain ⟨x1, x2, x3, x4, x5, x6, x7⟩ := h.on hg hfV hcf
  refine ⟨x1, x2, ?_, x3, x4, fun _ => own_le hu h.gr.size, h.s59, fun e _ k e1 e2 => apart_new (b' := 0) (h.o5 e) hu k e1 e2, fun e _ k e1 e2 => apart_new (b' := 0) (h.o9 e) hu k e1 e2, x7, fun e => (by rw [h16] at e; cases e), fun e => ?_⟩
  · revert hf; cases f <;> cases b1 <;> cases l5 <;> cases b2 <;> cases l9 <;> cases b3 <;> exact id
  · obtain ⟨b, cs, y1, y2, y3, y4, y5⟩ := x6 e
    exact ⟨b, cs, y1, y2, y3, y4, fun e => (by rw [h18] at e; cases e)⟩
theorem PG.build (h : PG V cb fb pv av ev r f b1 b2 b3 m t P A E g4 g5 g9 g13 g16 g17 l4 l5 l9 l13 l16 l17 l18 w) : PG V cb fb pv av ev r f b1 b2 b3 m t P A E g4 g5 g9 g13 (.agg #[g5, g9, g13, .int .i64 r]) g17 l4 l5 l9 l13 true l17 l18 w :=
  ⟨h.gr, h.cr, h.fr, h.o5, h.o9, h.o13, h.s59, h.s53, h.s93, h.ea, fun _ => rfl, h.pd⟩
theorem PG.made (h : PG V cb fb pv av ev r f b1 b2 b3 m t P A E g4 g5 g9 g13 g16 g17 l4 l5 l9 l13 l16 l17 l18 w) (hfV : fb < V.heap.size) (hcf : cb ≠ fb) (h18 : l18 = false) : PG V cb fb pv av ev r f b1 b2 b3 m t P A E g4 g5 g9 g13 g16 (.pointer (some ⟨w.heap.size, 0, none⟩)) l4 l5 l9 l13 l16 true l18 (w.alloc (.cells #[.slice none 0 0, .slice none 0 0, .slice none 0 0, .int .i64 0] 24)) := by
  have h9 := h.step (n_after w (.cells #[.slice none 0 0, .slice none 0 0, .slice none 0 0, .int .i64 0] 24)) hfV hcf
  exact ⟨h9.gr, h9.cr, h9.fr, h9.o5, h9.o9, h9.o13, h9.s59, h9.s53, h9.s93, h9.ea, h9.bd, fun _ => ⟨w.heap.size, _, rfl, h.gr.size, heap_alloc_new _ _, rfl, fun e => (by rw [h18] at e; cases e)⟩⟩
theorem PG.fill (h : PG V cb fb pv av ev r f b1 b2 b3 m t P A E g4 g5 g9 g13 g16 g17 l4 true true true l16 true l18 w) (hcV : cb < V.heap.size) (hfV : fb < V.heap.size) {b : Nat} {cs : Array Value} (e17 : g17 = .pointer (some ⟨b, 0, none⟩)) (hb : V.heap.size ≤ b) (hx : w.heap[b]? = some (.cells cs 24 (0, 0))) (hcs : cs.size = 4) :
    PG V cb fb pv av ev r f b1 b2 b3 m t P A E g4 g5 g9 g13 g16 g17 l4 true true true l16 true true (set4 w b g5 g9 g13 (.int .i64 r)) := by
  have hr : ∀ {u : Value} {n : Nat} {xs : List Value}, w.ownsRow V.heap.size 31 3 u n xs → u.ownBlock ≠ some b := fun h9 e => by
    rcases h9.2 with ⟨rfl, _⟩ | ⟨g, cap, cur, rfl, _, hgb, _⟩
    · cases e
    · have : g = b := by simpa [Value.ownBlock] using e
      subst this
      rw [hx] at hgb
      simp at hgb
  have gs : w.grownBy (set4 w b g5 g9 g13 (.int .i64 r)) (some b) := ⟨rfl, rfl, rfl, by rw [set4_size]; exact Nat.le_refl _, fun k _ hk => by
    have hk' : k ≠ b := fun e => hk (by rw [e])
    unfold set4
    rw [Below.heap_setCell _ _ _ _ hk', Below.heap_setCell _ _ _ _ hk', Below.heap_setCell _ _ _ _ hk', Below.heap_setCell _ _ _ _ hk']⟩
  obtain ⟨q0, q1, q2, q3, rfl⟩ : ∃ q0 q1 q2 q3, cs = #[q0, q1, q2, q3] := by
    obtain ⟨l⟩ := cs
    match l, hcs with
    | [a, b, c, d], _ => exact ⟨a, b, c, d, rfl⟩
  refine ⟨grown_le h.gr gs (fun r e => by cases e; exact .inl hb), h.cr.grew gs (fun r e => by cases e; omega), h.fr.grew gs (fun r e => by cases e; omega), fun _ => own_set4 (h.o5 rfl) (hr (h.o5 rfl)) _ _ _ _, fun _ => own_set4 (h.o9 rfl) (hr (h.o9 rfl)) _ _ _ _, fun _ => own_set4 (h.o13 rfl) (hr (h.o13 rfl)) _ _ _ _, h.s59, h.s53, h.s93, fun _ e => (by cases e), h.bd, fun _ => ⟨b, #[g5, g9, g13, .int .i64 r], e17, hb, ?_, rfl, fun _ => rfl⟩⟩
  have y0 := Go.heap_setCell_same w b 0 _ _ g5 hx
  have y1 := Go.heap_setCell_same _ b 1 _ _ g9 y0
  have y2 := Go.heap_setCell_same _ b 2 _ _ g13 y1
  have y3 := Go.heap_setCell_same _ b 3 _ _ (.int .i64 r) y2
  simpa [set4] using y3
theorem PG.each (h : PG V cb fb pv av ev r f b1 b2 b3 m t P A E g4 g5 g9 g13 g16 g17 l4 l5 l9 l13 l16 l17 l18 w) (hb : Below w.heap.size w w') (hfV : fb < V.heap.size) (hcf : cb ≠ fb) {b : Nat} (hVb : V.heap.size ≤ b) (h1 : w'.cell? ⟨b, 0, none⟩ = some pv) (h2 : w'.cell? ⟨b + 1, 0, none⟩ = some (.func (.func 22) #[.pointer (some ⟨fb, 0, none⟩)] #[])) :
    PG V cb fb pv av ev r f b1 b2 b3 m t P A E (.func (.func 53) #[] #[.pointer (some ⟨b, 0, none⟩), .pointer (some ⟨b + 1, 0, none⟩)]) g5 g9 g13 g16 g17 true l5 l9 l13 l16 l17 l18 w' := by
  have h9 := h.step hb hfV hcf
  exact ⟨h9.gr, h9.cr, h9.fr, h9.o5, h9.o9, h9.o13, h9.s59, h9.s53, h9.s93, fun _ _ => ⟨b, rfl, hVb, h1, h2⟩, h9.bd, h9.pd⟩
end
theorem arr4' {cs : Array Value} (h : cs.size = 4) : ∃ u0 u1 u2 u3, cs = #[u0, u1, u2, u3] := by
  obtain ⟨l⟩ := cs
  match l, h with
  | [a, b, c, d], _ => exact ⟨a, b, c, d, rfl⟩
set_option maxHeartbeats 1000000 in
/-- A list's points, each where it comes to. -/
theorem gather_points (fb b : Nat) (f : Bool) (m : M9) (t : Pt) (P : List Pt) (o : Option Addr) (cap : Nat) (w : World) (hF : Cells w fb (frL f m t)) (hv : Lies w (.slice o P.length cap) P) (hne : ∀ q n c, Value.slice o P.length cap = .slice (some q) n c → P ≠ [] → q.block ≠ fb)
    (cp : w.cell? ⟨b, 0, none⟩ = some (.slice o P.length cap)) (cf : w.cell? ⟨b + 1, 0, none⟩ = some (.func (.func 22) #[.pointer (some ⟨fb, 0, none⟩)] #[])) (h2 : b + 1 ≠ fb) (hN : P.length < 1099511627776) :
    Calls Tryz.prog 20 #[.func (.func 53) #[] #[.pointer (some ⟨b, 0, none⟩), .pointer (some ⟨b + 1, 0, none⟩)]] w fun e W => ∃ u, e = .returned u ∧ W.ownsRow w.heap.size 31 3 u (P.map (m.ptV t)).length (fl3 (P.map (m.ptV t))) ∧ w.grownBy W (some fb) ∧ Cells W fb (frL (f || P.any (m.ptB t)) m t) := by
  have hlt := hF.lt
  refine Calls.mono (gathered_any 53 #[.pointer (some ⟨b, 0, none⟩), .pointer (some ⟨b + 1, 0, none⟩)] (fun k => m.ptV t (pt P k)) (some fb) (fun x => x < w.heap.size) (fun k X => Cells X fb (frL (f || anyK (fun k => m.ptB t (pt P k)) k) m t)) P.length w (enters_of Tryz.func53 (by kernel_rfl) rfl)
    (fun W hb => each_tells_pt 8 b (b + 1) P o cap 22 #[.pointer (some ⟨fb, 0, none⟩)] #[] (fun k => (m.ptV t (pt P k)).v) (some fb) (fun x => x < w.heap.size) (fun k X => Cells X fb (frL (f || anyK (fun k => m.ptB t (pt P k)) k) m t)) W
      (enters_of Tryz.func22 (by kernel_rfl) rfl) (hv.below hb) (c_after hb cp) (c_after hb cf) (fun q e h0 => ?_) ⟨World.block_lt_of_cell? _ _ cf, fun e => h2 (by simpa using e)⟩ (fun x hx => Nat.lt_of_lt_of_le hx hb.size)
      (fun X hX => by simpa [anyK] using (hF.step hb).step hX) (fun k X Y hs hk => Cells.keepO hs hk hlt)
      (fun k X hk hs => (point_any fb _ m t (pt P k) X hs).mono fun e X' h => ⟨h.1, after_grown h.2.out, by have h9 := Cells.after hs h.2.out; rw [Bool.or_assoc] at h9; exact h9⟩))
    (fun x hx => hx) (fun r e => by cases e; exact hlt) (fun k X Y r2 hs hg hr => Cells.grew hs hg (fun r e => by have := hr r e; omega)) hN) ?_
  · subst e
    exact ⟨hv.lt h0, fun e => hne q _ _ rfl h0 (by simpa using e)⟩
  · rintro e W ⟨u, rfl, h3, h4, h5⟩
    rw [firsts_map] at h3
    rw [anyK_any] at h5
    exact ⟨u, rfl, by rw [List.length_map]; exact h3, h4, h5⟩
end Go.Proofs.YtompnibhfdkkjaaGreat
namespace Go.Proofs.YtompnibhfdkkjaaGreat
open Go.RowKit Go.Shelf
set_option linter.unusedVariables false

set_option maxHeartbeats 2000000 in
theorem rin6_any (p : Pt) (m : Int) (w : World) (hm : 0 ≤ m ∧ m ≤ 4611686018427387903) :
    Calls Tryz.prog 26 #[p.v, .int .i64 m] w fun e W => e = .returned (.bool (p.inB m)) ∧ Below w.heap.size w W := by
  have HI : Hid (p.inB m = decide ((-m ≤ p.x ∧ p.x ≤ m) ∧ (-m ≤ p.y ∧ p.y ≤ m) ∧ (-m ≤ p.z ∧ p.z ≤ m))) := rfl
  obtain ⟨R9, hR9⟩ : ∃ R9, p.inB m = R9 := ⟨_, rfl⟩
  rw [hR9] at HI ⊢
  clear hR9
  obtain ⟨x, y, z⟩ := p
  unfold Pt.v
  dsimp only at *
  obtain ⟨mm, hmm⟩ : ∃ mm, IntKind.i64.wrap (-m) = mm := ⟨_, rfl⟩
  have hm9 : mm = -m := by rw [← hmm, IntKind.wrap_i64]; omega
  rw [← hm9] at HI
  have HM : Hid _ := hm
  clear hm9 hm
  by_cases h1 : mm ≤ x
  · by_cases h2 : x ≤ m
    · by_cases h3 : mm ≤ y
      · by_cases h4 : y ≤ m
        · by_cases h5 : mm ≤ z
          · by_cases h6 : z ≤ m
            · have e9 : R9 = true := by rw [HI.out]; simp [h1, h2, h3, h4, h5, h6]
              subst e9
              go_enter Tryz.func26, Tryz.ntmps26
              go_wp2
              go_ret
              exact ⟨rfl, n_after _ _⟩
            · have e9 : R9 = false := by rw [HI.out]; simp [h6]
              subst e9
              go_enter Tryz.func26, Tryz.ntmps26
              go_wp2
              go_ret
              exact ⟨rfl, n_after _ _⟩
          · have e9 : R9 = false := by rw [HI.out]; simp [h5]
            subst e9
            go_enter Tryz.func26, Tryz.ntmps26
            go_wp2
            go_ret
            exact ⟨rfl, n_after _ _⟩
        · have e9 : R9 = false := by rw [HI.out]; simp [h4]
          subst e9
          go_enter Tryz.func26, Tryz.ntmps26
          go_wp2
          go_ret
          exact ⟨rfl, n_after _ _⟩
      · have e9 : R9 = false := by rw [HI.out]; simp [h3]
        subst e9
        go_enter Tryz.func26, Tryz.ntmps26
        go_wp2
        go_ret
        exact ⟨rfl, n_after _ _⟩
    · have e9 : R9 = false := by rw [HI.out]; simp [h2]
      subst e9
      go_enter Tryz.func26, Tryz.ntmps26
      go_wp2
      go_ret
      exact ⟨rfl, n_after _ _⟩
  · have e9 : R9 = false := by rw [HI.out]; simp [h1]
    subst e9
    go_enter Tryz.func26, Tryz.ntmps26
    go_wp2
    go_ret
    exact ⟨rfl, n_after _ _⟩
set_option maxHeartbeats 1000000 in
theorem rtimes6_any (p : Pt) (n : Int) (w : World) :
    Calls Tryz.prog 29 #[p.v, .int .i64 n] w fun e W => e = .returned (p.times n).v ∧ Below w.heap.size w W := by
  obtain ⟨x, y, z⟩ := p
  unfold Pt.v Pt.times
  dsimp only at *
  obtain ⟨s1, h1⟩ : ∃ s, IntKind.i64.wrap (x * n) = s := ⟨_, rfl⟩
  obtain ⟨s2, h2⟩ : ∃ s, IntKind.i64.wrap (y * n) = s := ⟨_, rfl⟩
  obtain ⟨s3, h3⟩ : ∃ s, IntKind.i64.wrap (z * n) = s := ⟨_, rfl⟩
  rw [h1, h2, h3]
  go_enter Tryz.func29, Tryz.ntmps29
  go_wp2
  exact bodyPost_ret (v := .agg #[.int .i64 s1, .int .i64 s2, .int .i64 s3]) (by simp [results, Tryz.results29, go_sem]) rfl ⟨rfl, b_step (n_after _ _) (n_after _ _)⟩
theorem down_is {n : Int} (hn : -4611686018427387904 ≤ n ∧ n ≤ 4611686018427387903) : (n.tmod 1048576 < 0 → n.tdiv 1048576 - 1 = n / 1048576) ∧ (¬ n.tmod 1048576 < 0 → n.tdiv 1048576 = n / 1048576) := by
  have h1 := Int.tmod_add_mul_tdiv n 1048576
  have h2 := Int.tmod_lt_of_pos n (b := 1048576) (by decide)
  have h3 : -1048576 < n.tmod 1048576 := by
    have := Int.tmod_lt_of_pos (-n) (b := 1048576) (by decide)
    rw [Int.neg_tmod] at this
    omega
  omega
set_option maxHeartbeats 1000000 in
theorem rdown6_any (n : Int) (w : World) (hn : -4611686018427387904 ≤ n ∧ n ≤ 4611686018427387903) :
    Calls Tryz.prog 30 #[.int .i64 n] w fun e W => e = .returned (.int .i64 (n / 1048576)) ∧ W = w := by
  obtain ⟨d1, d2⟩ := down_is hn
  obtain ⟨r, hr⟩ : ∃ r, n / 1048576 = r := ⟨_, rfl⟩
  rw [hr] at d1 d2 ⊢
  have b1 : -4611686018427387904 ≤ n.tdiv 1048576 ∧ n.tdiv 1048576 ≤ 4611686018427387903 := by
    have e : (n.tdiv 1048576).natAbs = n.natAbs / 1048576 := Int.natAbs_tdiv n 1048576
    omega
  clear hr
  obtain ⟨t, ht⟩ : ∃ t, n.tdiv 1048576 = t := ⟨_, rfl⟩
  obtain ⟨u, hu⟩ : ∃ u, n.tmod 1048576 = u := ⟨_, rfl⟩
  have e1 : wrap64 (n.tdiv 1048576) = t := by rw [w64 (by omega) (by omega)]; exact ht
  rw [ht] at d1 d2 b1
  rw [hu] at d1 d2
  have e2 : wrap64 (t - 1) = t - 1 := w64 (by omega) (by omega)
  by_cases h : u < 0
  · have e3 : t - 1 = r := d1 h
    subst e3
    clear d1 d2 b1 hn ht
    go_enter Tryz.func30, Tryz.ntmps30
    go_wp2
    go_ret
    exact ⟨by simp [e1, e2], rfl⟩
  · have e3 : t = r := d2 h
    subst e3
    clear d1 d2 b1 hn ht
    go_enter Tryz.func30, Tryz.ntmps30
    go_wp2
    go_ret
    exact ⟨by simp, rfl⟩
end Go.Proofs.YtompnibhfdkkjaaGreat
namespace Go.Proofs.YtompnibhfdkkjaaGreat.Ref

/-- The number of the first n digits. -/
def val (d : Nat → Int) : Nat → Int
  | 0 => 0
  | n + 1 => val d n + d n * 16777216 ^ n

/-- Digits. -/
def Digs (d : Nat → Int) : Prop := ∀ j, j < 8 → 0 ≤ d j ∧ d j < 16777216

def put (d : Nat → Int) (k : Nat) (v : Int) : Nat → Int := fun j => if j = k then v else d j
theorem put_same (d : Nat → Int) (k : Nat) (v : Int) : put d k v k = v := by simp [put]
theorem put_other (d : Nat → Int) {k j : Nat} (v : Int) (h : j ≠ k) : put d k v j = d j := by simp [put, h]

theorem pos (n : Nat) : (0 : Int) < 16777216 ^ n := Int.pow_pos (by omega)

theorem val_ext {d e : Nat → Int} : ∀ n, (∀ j, j < n → d j = e j) → val d n = val e n
  | 0, _ => rfl
  | n + 1, h => by
    simp only [val]
    rw [val_ext n (fun j hj => h j (by omega)), h n (by omega)]

theorem val_put_ge (d : Nat → Int) (k : Nat) (v : Int) (n : Nat) (h : n ≤ k) : val (put d k v) n = val d n :=
  val_ext n fun j hj => put_other d v (by omega)

theorem val_put (d : Nat → Int) (k : Nat) (v : Int) : ∀ n, k < n → val (put d k v) n = val d n + (v - d k) * 16777216 ^ k
  | 0, h => by omega
  | n + 1, h => by
    simp only [val]
    by_cases e : k = n
    · subst e
      rw [val_put_ge d k v k (Nat.le_refl _), put_same, Int.sub_mul]; omega
    · rw [val_put d k v n (by omega), put_other d v (by omega : n ≠ k)]; omega

theorem val_nonneg {d : Nat → Int} : ∀ n, (∀ j, j < n → 0 ≤ d j) → 0 ≤ val d n
  | 0, _ => by simp [val]
  | n + 1, h => by
    have a := val_nonneg n (fun j hj => h j (by omega))
    have b := Int.mul_nonneg (h n (by omega)) (Int.le_of_lt (pos n))
    simp only [val]; omega

theorem val_lt {d : Nat → Int} : ∀ n, (∀ j, j < n → 0 ≤ d j ∧ d j < 16777216) → val d n < 16777216 ^ n
  | 0, _ => by simp [val]
  | n + 1, h => by
    have a := val_lt n (fun j hj => h j (by omega))
    have b := Int.mul_le_mul_of_nonneg_right (by have := h n (by omega); omega : d n ≤ 16777215) (Int.le_of_lt (pos n))
    simp only [val, Int.pow_succ]; omega

theorem Digs.nonneg {d : Nat → Int} (h : Digs d) : 0 ≤ val d 8 := val_nonneg 8 fun j hj => (h j hj).1
theorem Digs.lt {d : Nat → Int} (h : Digs d) : val d 8 < 6277101735386680763835789423207666416102355444464034512896 := by
  have := val_lt 8 h; simpa using this
theorem Digs.put {d : Nat → Int} (h : Digs d) (k : Nat) {v : Int} (hv : 0 ≤ v ∧ v < 16777216) : Digs (put d k v) := by
  intro j hj
  by_cases e : j = k
  · subst e; rw [put_same]; exact hv
  · rw [put_other d v e]; exact h j hj

/-- Who has the greater digit, the higher ones alike, is greater. -/
theorem val_less {a b : Nat → Int} (i : Nat) (ha : ∀ j, j < i → 0 ≤ a j ∧ a j < 16777216) (hb : ∀ j, j < i → 0 ≤ b j) (h : a i < b i) : ∀ n, i < n → (∀ j, i < j → j < n → a j = b j) → val a n < val b n
  | 0, hn, _ => by omega
  | n + 1, hn, he => by
    simp only [val]
    by_cases e : i = n
    · subst e
      have h1 := val_lt i ha
      have h2 := val_nonneg i hb
      have h3 := Int.mul_le_mul_of_nonneg_right (by omega : a i + 1 ≤ b i) (Int.le_of_lt (pos i))
      rw [Int.add_mul] at h3; omega
    · have := val_less i ha hb h n (by omega) (fun j h1 h2 => he j h1 (by omega))
      rw [he n (by omega) (by omega)]; omega

/-- One digit of a sum. -/
theorem add_step {V A B c x y P : Int} (h : V + c * P = A + B) : V + (x + y + c) % 16777216 * P + (x + y + c) / 16777216 * (P * 16777216) = A + x * P + (B + y * P) := by
  have e := Int.emod_add_mul_ediv (x + y + c) 16777216
  obtain ⟨r, hr⟩ : ∃ r, r = (x + y + c) % 16777216 := ⟨_, rfl⟩
  obtain ⟨q, hq⟩ : ∃ q, q = (x + y + c) / 16777216 := ⟨_, rfl⟩
  rw [← hr, ← hq] at e ⊢
  have : (r + 16777216 * q) * P = (x + y + c) * P := by rw [e]
  grind

/-- One digit of a product. -/
theorem mul_step {V c o x y P R : Int} (h : V + c * P = R) : V + ((o + x * y + c) % 16777216 - o) * P + (o + x * y + c) / 16777216 * (P * 16777216) = R + x * y * P := by
  have e := Int.emod_add_mul_ediv (o + x * y + c) 16777216
  obtain ⟨r, hr⟩ : ∃ r, r = (o + x * y + c) % 16777216 := ⟨_, rfl⟩
  obtain ⟨q, hq⟩ : ∃ q, q = (o + x * y + c) / 16777216 := ⟨_, rfl⟩
  rw [← hr, ← hq] at e ⊢
  have : (r + 16777216 * q) * P = (o + x * y + c) * P := by rw [e]
  grind

/-- The digits of an int's size. -/
def dig (u : Int) (j : Nat) : Int := u / 16777216 ^ j % 16777216

theorem dig_step (u : Int) (k : Nat) : u / 16777216 ^ k / 16777216 = u / 16777216 ^ (k + 1) := by
  rw [Int.pow_succ, Int.ediv_ediv_of_nonneg (Int.le_of_lt (pos k))]

theorem val_dig (u : Int) : ∀ n, val (dig u) n = u % 16777216 ^ n
  | 0 => by simp [val, Int.emod_one]
  | n + 1 => by
    simp only [val, val_dig u n, dig]
    rw [Int.pow_succ]
    have h1 := Int.emod_add_mul_ediv u (16777216 ^ n)
    have h2 := Int.emod_add_mul_ediv (u / 16777216 ^ n) 16777216
    have hp := pos n
    have b1 := Int.emod_nonneg u (by omega : (16777216 : Int) ^ n ≠ 0)
    have b2 := Int.emod_lt_of_pos u hp
    have b3 := Int.emod_nonneg (u / 16777216 ^ n) (by omega : (16777216 : Int) ≠ 0)
    have b4 := Int.emod_lt_of_pos (u / 16777216 ^ n) (by omega : (0 : Int) < 16777216)
    generalize (16777216 : Int) ^ n = P at *
    generalize u % P = r at *
    generalize u / P = q at *
    generalize q % 16777216 = s at *
    generalize q / 16777216 = t at *
    have hs : s * P ≤ 16777215 * P := Int.mul_le_mul_of_nonneg_right (by omega) (by omega)
    have hs0 : 0 ≤ s * P := Int.mul_nonneg b3 (by omega)
    have e : u = (P * 16777216) * t + (r + s * P) := by rw [← h1, ← h2]; grind
    rw [e, Int.mul_add_emod_self_left, Int.emod_eq_of_lt (by omega) (by omega)]

/-- A number by its sign and its digits. -/
def sv (s : Bool) (d : Nat → Int) : Int := if s then -val d 8 else val d 8
end Go.Proofs.YtompnibhfdkkjaaGreat.Ref
namespace Go.Proofs.YtompnibhfdkkjaaGreat
open Go.RowKit Ref

/-- A number as the reference hands it on. -/
@[reducible] def wv (s : Bool) (d : Nat → Int) : Value := .agg #[.bool s, .int .i64 (d 0), .int .i64 (d 1), .int .i64 (d 2), .int .i64 (d 3), .int .i64 (d 4), .int .i64 (d 5), .int .i64 (d 6), .int .i64 (d 7)]

/-- Such a number lies in block b, and may be written. -/
structure RLies (w : World) (b : Nat) (s : Bool) (d : Nat → Int) : Prop where
  neg : w.cell? ⟨b, 0, none⟩ = some (.bool s)
  dig : ∀ k, k < 8 → w.cell? ⟨b, 1 + k, none⟩ = some (.int .i64 (d k))
  free : ∀ k, k < 9 → w.frozen? ⟨b, k, none⟩ = false

theorem RLies.lt {w : World} {b : Nat} {s : Bool} {d : Nat → Int} (h : RLies w b s d) : b < w.heap.size := World.block_lt_of_cell? _ _ h.neg

theorem lies_new (w : World) (s : Bool) (d : Nat → Int) (t : TypeId) :
    RLies (w.alloc (.cells #[.bool s, .int .i64 (d 0), .int .i64 (d 1), .int .i64 (d 2), .int .i64 (d 3), .int .i64 (d 4), .int .i64 (d 5), .int .i64 (d 6), .int .i64 (d 7)] t)) w.heap.size s d := by
  refine ⟨by simp, fun k hk => ?_, fun k hk => by simp⟩
  match k, hk with
  | 0, _ => simp
  | 1, _ => simp
  | 2, _ => simp
  | 3, _ => simp
  | 4, _ => simp
  | 5, _ => simp
  | 6, _ => simp
  | 7, _ => simp

theorem RLies.below {w w' : World} {b B : Nat} {s : Bool} {d : Nat → Int} (h : RLies w b s d) (hb : Below B w w') (hB : b < B) : RLies w' b s d :=
  ⟨(hb.cell hB).trans h.neg, fun k hk => (hb.cell hB).trans (h.dig k hk), fun k hk => (hb.frozen hB).trans (h.free k hk)⟩

theorem RLies.alloc {w : World} {b : Nat} {s : Bool} {d : Nat → Int} (h : RLies w b s d) (o : Obj) : RLies (w.alloc o) b s d :=
  h.below (new_after w o) h.lt

theorem RLies.other {w : World} {b : Nat} {s : Bool} {d : Nat → Int} (h : RLies w b s d) {a : Addr} (hne : b ≠ a.block) (v : Value) : RLies (w.setCell a v) b s d :=
  ⟨(World.cell?_of_block (w := w) (Below.heap_setCell _ _ _ _ hne)).trans h.neg, fun k hk => (World.cell?_of_block (w := w) (Below.heap_setCell _ _ _ _ hne)).trans (h.dig k hk),
    fun k hk => (World.frozen?_of_block (w := w) (Below.heap_setCell _ _ _ _ hne)).trans (h.free k hk)⟩

theorem RLies.put {w : World} {b : Nat} {s : Bool} {d : Nat → Int} (h : RLies w b s d) {k : Nat} (hk : k < 8) (v : Int) : RLies (w.setCell ⟨b, 1 + k, none⟩ (.int .i64 v)) b s (put d k v) := by
  have hd := h.dig k hk
  refine ⟨?_, fun j hj => ?_, fun j hj => ?_⟩
  · rw [← h.neg]; simp [go_sem]
  · have hj' := h.dig j hj
    by_cases e : j = k
    · subst e; simp [go_sem, hd, put_same]
    · rw [put_other d v e, ← hj']; simp [go_sem]
  · rw [← h.free j hj]; simp [go_sem]

theorem RLies.drew {w : World} {b : Nat} {s : Bool} {d : Nat → Int} (h : RLies w b s d) : RLies w.drew b s d := ⟨h.neg, h.dig, h.free⟩


/-- The nine cells, one by one, as a walk wants them. -/
theorem RLies.cells {w : World} {b : Nat} {s : Bool} {d : Nat → Int} (h : RLies w b s d) : w.cell? ⟨b, 0, none⟩ = some (.bool s) ∧ w.cell? ⟨b, 1, none⟩ = some (.int .i64 (d 0)) ∧ w.cell? ⟨b, 2, none⟩ = some (.int .i64 (d 1)) ∧ w.cell? ⟨b, 3, none⟩ = some (.int .i64 (d 2)) ∧ w.cell? ⟨b, 4, none⟩ = some (.int .i64 (d 3)) ∧ w.cell? ⟨b, 5, none⟩ = some (.int .i64 (d 4)) ∧ w.cell? ⟨b, 6, none⟩ = some (.int .i64 (d 5)) ∧ w.cell? ⟨b, 7, none⟩ = some (.int .i64 (d 6)) ∧ w.cell? ⟨b, 8, none⟩ = some (.int .i64 (d 7)) :=
  ⟨h.neg, h.dig 0 (by omega), h.dig 1 (by omega), h.dig 2 (by omega), h.dig 3 (by omega), h.dig 4 (by omega), h.dig 5 (by omega), h.dig 6 (by omega), h.dig 7 (by omega)⟩
theorem RLies.frees {w : World} {b : Nat} {s : Bool} {d : Nat → Int} (h : RLies w b s d) : w.frozen? ⟨b, 0, none⟩ = false ∧ w.frozen? ⟨b, 1, none⟩ = false ∧ w.frozen? ⟨b, 2, none⟩ = false ∧ w.frozen? ⟨b, 3, none⟩ = false ∧ w.frozen? ⟨b, 4, none⟩ = false ∧ w.frozen? ⟨b, 5, none⟩ = false ∧ w.frozen? ⟨b, 6, none⟩ = false ∧ w.frozen? ⟨b, 7, none⟩ = false ∧ w.frozen? ⟨b, 8, none⟩ = false :=
  ⟨h.free 0 (by omega), h.free 1 (by omega), h.free 2 (by omega), h.free 3 (by omega), h.free 4 (by omega), h.free 5 (by omega), h.free 6 (by omega), h.free 7 (by omega), h.free 8 (by omega)⟩

theorem below_nine {w W : World} {b : Nat} {v0 v1 v2 v3 v4 v5 v6 v7 v8 : Value} (h : Below w.heap.size w W) (hb : w.heap.size ≤ b) :
    Below w.heap.size w (((((((((W.setCell ⟨b, 0, none⟩ v0).setCell ⟨b, 1, none⟩ v1).setCell ⟨b, 2, none⟩ v2).setCell ⟨b, 3, none⟩ v3).setCell ⟨b, 4, none⟩ v4).setCell ⟨b, 5, none⟩ v5).setCell ⟨b, 6, none⟩ v6).setCell ⟨b, 7, none⟩ v7).setCell ⟨b, 8, none⟩ v8) :=
  ((((((((h.setCell hb _).setCell hb _).setCell hb _).setCell hb _).setCell hb _).setCell hb _).setCell hb _).setCell hb _).setCell hb _

theorem of_end {n U : Int} {s : Bool} (h1 : -9223372036854775808 ≤ n) (h2 : n < 9223372036854775808) (hs : s = decide (n < 0)) (hU : U = n.natAbs) (d : Nat → Int) (hd : ∀ j, j < 8 → d j = dig U j) : Digs d ∧ sv s d = n := by
  refine ⟨fun j hj => ?_, ?_⟩
  · rw [hd j hj]; exact ⟨Int.emod_nonneg _ (by omega), Int.emod_lt_of_pos _ (by omega)⟩
  · have h := val_ext (e := dig U) 8 hd
    rw [val_dig] at h
    unfold sv
    rw [h, hs, hU]
    by_cases g : n < 0
    · simp [g]; omega
    · simp [g]; omega

set_option maxHeartbeats 1000000 in
theorem of_any (n : Int) (w : World) (h1 : -9223372036854775808 ≤ n) (h2 : n < 9223372036854775808) :
    Calls Tryz.prog 129 #[.int .i64 n] w fun e w' => ∃ s d, e = .returned (wv s d) ∧ Hid (Digs d ∧ sv s d = n) ∧ Hid (Below w.heap.size w w') := by
  obtain ⟨s, hs⟩ : ∃ s, s = decide (n < 0) := ⟨_, rfl⟩
  obtain ⟨U, hU⟩ : ∃ U : Int, U = n.natAbs := ⟨_, rfl⟩
  have HE : Hid (∀ d, (∀ j, j < 8 → d j = dig U j) → Digs d ∧ sv s d = n) := of_end h1 h2 hs hU
  by_cases hn : n < 0
  · obtain rfl : s = true := by rw [hs]; simp [hn]
    clear hs
    obtain rfl : n = -U := by omega
    clear hU
    go_enter Tryz.func129, Tryz.ntmps129
    go_wp2
    go_loopw [4, 5] (fun u i wr => ∃ (k : Nat) (d : Nat → Int), k ≤ 8 ∧ i = .int .i64 k ∧ u = .int .u64 (U / 16777216 ^ k) ∧ Hid (∀ j, j < k → d j = dig U j) ∧ Hid (RLies wr (w.heap.size + 1) true d) ∧ Hid (RLies wr w.heap.size false (fun _ => 0)) ∧ Hid (Below w.heap.size w wr)) (fun _ i _ => 8 - (intOf i).toNat)
    case atStart => exact ⟨0, fun _ => 0, Nat.zero_le _, rfl, by simp [IntKind.wrap, IntKind.bits, IntKind.signed]; omega, fun j hj => by omega, by show RLies _ _ _ _; have := lies_new (w.alloc (.cells #[.bool false, .int .i64 0, .int .i64 0, .int .i64 0, .int .i64 0, .int .i64 0, .int .i64 0, .int .i64 0, .int .i64 0] 130)) true (fun _ => 0) 130; simpa only [World.size_alloc] using this, RLies.alloc (lies_new w false (fun _ => 0) 130) _, (new_after w _).alloc (by simp) _⟩
    case round =>
      obtain ⟨k, d, hk, rfl, rfl, HD, HL, HR, HB⟩ := hrel
      by_cases hlt : k < 8
      · have hcell := HL.out.dig k hlt
        have hfree := HL.out.free (1 + k) (by omega)
        have i0 : (0 : Int) ≤ (k : Int) := by omega
        have i1 : (k : Int) < 8 := by omega
        have HS : Hid _ := dig_step U k
        have HP : Hid (put d k (U / 16777216 ^ k % 16777216) k = dig U k) := put_same _ _ _
        have u0 : 0 ≤ U / 16777216 ^ k := Int.ediv_nonneg (by omega) (Int.le_of_lt (pos k))
        have u1 : U / 16777216 ^ k < 18446744073709551616 := Int.lt_of_le_of_lt (Int.ediv_le_self _ (by omega)) (by omega)
        obtain ⟨x, hx⟩ : ∃ x, x = U / 16777216 ^ k := ⟨_, rfl⟩
        rw [← hx] at HS HP u0 u1
        rw [← hx]
        have HX : Hid _ := hx
        clear hx
        go_wp2
        go_roundw
        case rel =>
          refine ⟨k + 1, put d k (x % 16777216), by omega, by go_num, by rw [← HS.out], fun j hj => ?_, ?_, ?_, ?_⟩
          · by_cases e : j = k
            · subst e; exact HP.out
            · rw [put_other _ _ e]; exact HD.out j (by omega)
          · exact HL.out.put hlt _
          · exact HR.out.other (by simp) _
          · exact HB.out.setCell (by simp) _
        case measure => simp [intOf]; omega
      · have hk8 : 8 ≤ (k : Int) := by omega
        obtain ⟨c0, c1, c2, c3, c4, c5, c6, c7, c8⟩ := HL.out.cells
        obtain ⟨r0, r1, r2, r3, r4, r5, r6, r7, r8⟩ := HR.out.cells
        obtain ⟨f0, f1, f2, f3, f4, f5, f6, f7, f8⟩ := HR.out.frees
        go_wp2
        try simp only [Exit.inBlock, Exit.then]
        refine bodyPost_ret (by simp [results, Tryz.results129, go_sem, r0, r1, r2, r3, r4, r5, r6, r7, r8]; try rfl) rfl ?_
        refine ⟨_, d, rfl, HE.out d (fun j hj => HD.out j (by omega)), ?_⟩
        exact below_nine HB.out (Nat.le_refl _)
  · obtain rfl : s = false := by rw [hs]; simp [hn]
    clear hs
    obtain rfl : U = n := by omega
    clear hU
    go_enter Tryz.func129, Tryz.ntmps129
    go_wp2
    go_loopw [4, 5] (fun u i wr => ∃ (k : Nat) (d : Nat → Int), k ≤ 8 ∧ i = .int .i64 k ∧ u = .int .u64 (U / 16777216 ^ k) ∧ Hid (∀ j, j < k → d j = dig U j) ∧ Hid (RLies wr (w.heap.size + 1) false d) ∧ Hid (RLies wr w.heap.size false (fun _ => 0)) ∧ Hid (Below w.heap.size w wr)) (fun _ i _ => 8 - (intOf i).toNat)
    case atStart => exact ⟨0, fun _ => 0, Nat.zero_le _, rfl, by simp, fun j hj => by omega, by show RLies _ _ _ _; have := lies_new (w.alloc (.cells #[.bool false, .int .i64 0, .int .i64 0, .int .i64 0, .int .i64 0, .int .i64 0, .int .i64 0, .int .i64 0, .int .i64 0] 130)) false (fun _ => 0) 130; simpa only [World.size_alloc] using this, RLies.alloc (lies_new w false (fun _ => 0) 130) _, (new_after w _).alloc (by simp) _⟩
    case round =>
      obtain ⟨k, d, hk, rfl, rfl, HD, HL, HR, HB⟩ := hrel
      by_cases hlt : k < 8
      · have hcell := HL.out.dig k hlt
        have hfree := HL.out.free (1 + k) (by omega)
        have i0 : (0 : Int) ≤ (k : Int) := by omega
        have i1 : (k : Int) < 8 := by omega
        have HS : Hid _ := dig_step U k
        have HP : Hid (put d k (U / 16777216 ^ k % 16777216) k = dig U k) := put_same _ _ _
        have u0 : 0 ≤ U / 16777216 ^ k := Int.ediv_nonneg (by omega) (Int.le_of_lt (pos k))
        have u1 : U / 16777216 ^ k < 18446744073709551616 := Int.lt_of_le_of_lt (Int.ediv_le_self _ (by omega)) (by omega)
        obtain ⟨x, hx⟩ : ∃ x, x = U / 16777216 ^ k := ⟨_, rfl⟩
        rw [← hx] at HS HP u0 u1
        rw [← hx]
        have HX : Hid _ := hx
        clear hx
        go_wp2
        go_roundw
        case rel =>
          refine ⟨k + 1, put d k (x % 16777216), by omega, by go_num, by rw [← HS.out], fun j hj => ?_, ?_, ?_, ?_⟩
          · by_cases e : j = k
            · subst e; exact HP.out
            · rw [put_other _ _ e]; exact HD.out j (by omega)
          · exact HL.out.put hlt _
          · exact HR.out.other (by simp) _
          · exact HB.out.setCell (by simp) _
        case measure => simp [intOf]; omega
      · have hk8 : 8 ≤ (k : Int) := by omega
        obtain ⟨c0, c1, c2, c3, c4, c5, c6, c7, c8⟩ := HL.out.cells
        obtain ⟨r0, r1, r2, r3, r4, r5, r6, r7, r8⟩ := HR.out.cells
        obtain ⟨f0, f1, f2, f3, f4, f5, f6, f7, f8⟩ := HR.out.frees
        go_wp2
        try simp only [Exit.inBlock, Exit.then]
        refine bodyPost_ret (by simp [results, Tryz.results129, go_sem, r0, r1, r2, r3, r4, r5, r6, r7, r8]; try rfl) rfl ?_
        refine ⟨_, d, rfl, HE.out d (fun j hj => HD.out j (by omega)), ?_⟩
        exact below_nine HB.out (Nat.le_refl _)

end Go.Proofs.YtompnibhfdkkjaaGreat
