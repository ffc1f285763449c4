/- What the walk of the document's own Candidates keeps: boxes, a list that grows, a list that stands; its regions that append a point. -/
import Derived.Test.YtbhdfjoagajipaaGreatBBW0
import Derived.Test.YtbhdfjoagajipaaGreatBBW6
import Derived.Test.YtbhdfjoagajipaaGreatBBW7
import Derived.Test.YtbhdfjoagajipaaGreatBBW5
import Derived.Test.YtbhdfjoagajipaaGreatBBW1
import Derived.Lib.AppendZeros
import Derived.Deep.CutRange
import Derived.Maps.AppendAt
import Derived.Deep.Onto
namespace Go.Proofs.YtbhdfjoagajipaaGreat
open Go.RowKit Go.Shelf
set_option linter.unusedVariables false

/-- Boxes that stay; a list of one's own that grows; another one that stands. -/
structure CK (w0 X : World) (n0 : Nat) (bs : List (Nat × List Value)) (u : Value) (M : List Pt) (v : Value) (N : List Pt) : Prop where
  below : Below w0.heap.size w0 X
  fix : ∀ p ∈ bs, p.1 < X.heap.size ∧ u.ownBlock ≠ some p.1 ∧ v.ownBlock ≠ some p.1 ∧ Cel X p.1 p.2
  hn : w0.heap.size ≤ n0
  hx : n0 ≤ X.heap.size
  own : X.ownsRow n0 23 3 u M.length (fl3 M)
  two : X.ownsRow n0 23 3 v N.length (fl3 N)
  ap : ∀ k, v.ownBlock = some k → u.ownBlock ≠ some k
theorem grewOf {w W : World} {u u' : Value} (hg : w.grownBy W u.ownBlock) (hs : u'.ownBlock = u.ownBlock ∨ u'.ownBlock = some w.heap.size) : Grew w W u u' :=
  ⟨hg, by rcases hs with e | e; exact Or.inl e; exact Or.inr ⟨_, e, Nat.le_refl _⟩⟩
section
variable {w0 X Y : World} {n0 : Nat} {bs : List (Nat × List Value)} {u u' v : Value} {M M' N : List Pt}
theorem CK.step (h : CK w0 X n0 bs u M v N) (hb : Below X.heap.size X Y) : CK w0 Y n0 bs u M v N :=
  ⟨b_step h.below hb, fun p hp => ⟨Nat.lt_of_lt_of_le (h.fix p hp).1 hb.size, (h.fix p hp).2.1, (h.fix p hp).2.2.1, (h.fix p hp).2.2.2.step hb⟩, h.hn, Nat.le_trans h.hx hb.size, own_below h.own hb, own_below h.two hb, h.ap⟩
theorem CK.swap (h : CK w0 X n0 bs u M v N) : CK w0 X n0 bs v N u M := ⟨h.below, fun p hp => ⟨(h.fix p hp).1, (h.fix p hp).2.2.1, (h.fix p hp).2.1, (h.fix p hp).2.2.2⟩, h.hn, h.hx, h.two, h.own, fun k e e' => h.ap k e' e⟩
theorem CK.alone (h : CK w0 X n0 bs u M v N) : CK w0 X n0 bs u M (.slice none 0 0) [] := ⟨h.below, fun p hp => ⟨(h.fix p hp).1, (h.fix p hp).2.1, (fun e => by cases e), (h.fix p hp).2.2.2⟩, h.hn, h.hx, h.own, World.ownsRow_nil _ _ _ _, fun k e => by cases e⟩
theorem CK.less {x : Nat × List Value} (h : CK w0 X n0 (x :: bs) u M v N) : CK w0 X n0 bs u M v N := ⟨h.below, fun p hp => h.fix p (List.mem_cons_of_mem _ hp), h.hn, h.hx, h.own, h.two, h.ap⟩
theorem CK.add {b : Nat} {vs : List Value} (h : CK w0 X n0 bs u M v N) (hb : Below X.heap.size X Y) (hn : X.heap.size ≤ b) (hl : b < Y.heap.size) (hc : Cel Y b vs) : CK w0 Y n0 ((b, vs) :: bs) u M v N := by
  have h2 := h.step hb
  refine ⟨h2.below, fun p hp => ?_, h2.hn, h2.hx, h2.own, h2.two, h2.ap⟩
  rcases List.mem_cons.1 hp with rfl | hp
  · exact ⟨hl, fun e => by have := (h.own.lt _ e).2; omega, fun e => by have := (h.two.lt _ e).2; omega, hc⟩
  · exact h2.fix p hp
theorem CK.grew (h : CK w0 X n0 bs u M v N) (hr : Y.ownsRow n0 23 3 u' M'.length (fl3 M')) (hg : Grew X Y u u') : CK w0 Y n0 bs u' M' v N := by
  obtain ⟨t1, t2⟩ := hg.beside h.two h.ap
  refine ⟨hg.on h.below (own_le h.own h.hn) h.below.size, fun p hp => ?_, h.hn, Nat.le_trans h.hx hg.grown.size, hr, t1, t2⟩
  obtain ⟨p1, p2, p3, p4⟩ := h.fix p hp
  refine ⟨Nat.lt_of_lt_of_le p1 hg.grown.size, fun e => ?_, p3, fun i x e => ?_⟩
  · rcases hg.same with s | ⟨j, s, hj⟩
    · rw [s] at e; exact p2 e
    · rw [s] at e; cases e; omega
  · have hk : Y.heap[p.1]? = X.heap[p.1]? := hg.grown.block p.1 p1 (fun e => p2 e.symm)
    exact (World.cell?_of_block (w := X) (a := ⟨p.1, i, none⟩) hk).trans (p4 i x e)
theorem CK.app (p : Pt) (h : CK w0 X n0 bs u M v N) (hr : Y.ownsRow n0 23 3 u' (M.length + 1) (fl3 M ++ [.int .i64 p.x, .int .i64 p.y, .int .i64 p.z])) (hg : Grew X Y u u') : CK w0 Y n0 bs u' (M ++ [p]) v N := by
  refine h.grew ?_ hg
  rw [fl3_append, List.length_append]; exact hr
theorem CK.at (h : CK w0 X n0 bs u M v N) {c : Nat} {vs : List Value} (hm : (c, vs) ∈ bs) : Cel X c vs := (h.fix _ hm).2.2.2
theorem CK.start (w0 : World) (l1 l2 : List Value) (t1 t2 : TypeId) :
    CK w0 ((w0.alloc (.cells l1.toArray t1)).alloc (.cells l2.toArray t2)) (w0.heap.size + 2) [(w0.heap.size, l1), (w0.heap.size + 1, l2)] (.slice none 0 0) [] (.slice none 0 0) [] := by
  have c9 := Cel.two w0 l1 l2 t1 t2
  refine ⟨b_step (n_after _ _) (n_after _ _), fun p hp => ?_, by omega, by simp, World.ownsRow_nil _ _ _ _, World.ownsRow_nil _ _ _ _, fun k e => by cases e⟩
  simp only [List.mem_cons, List.not_mem_nil, or_false] at hp
  rcases hp with rfl | rfl
  · exact ⟨by simp; omega, (fun e => by cases e), (fun e => by cases e), c9.1⟩
  · exact ⟨by simp, (fun e => by cases e), (fun e => by cases e), c9.2⟩
end
theorem mayC_parts {c : Cr} (h : mayC c = true) : c.P.length ≤ 32 ∧ c.A.length ≤ 128 ∧ c.E.length ≤ 128 ∧ (∀ p ∈ c.P, p.inB 16777216 = true) ∧ (∀ p ∈ c.E, p.inB 1048576 = true) := by
  obtain ⟨h1, h2, h3, h4⟩ := may_facts h
  unfold mayC at h
  simp only [Bool.and_eq_true, decide_eq_true_eq] at h
  exact ⟨by omega, by omega, by omega, h2, h3⟩
theorem cross_next (E F : List Pt) {i : Nat} (h : i < E.length) : crossL (E.take (i + 1)) F = crossL (E.take i) F ++ F.map (fun f => (pt E i).cross f) := by
  unfold crossL
  rw [take_pt h, List.flatMap_append]
  simp
theorem flat_take (f : Pt → List Pt) (L : List Pt) {i : Nat} (h : i < L.length) : (L.take (i + 1)).flatMap f = (L.take i).flatMap f ++ f (pt L i) := by
  rw [take_pt h, List.flatMap_append]
  simp
theorem map_take (f : Pt → Pt) (L : List Pt) {i : Nat} (h : i < L.length) : (L.take (i + 1)).map f = (L.take i).map f ++ [f (pt L i)] := by
  rw [take_pt h, List.map_append]
  rfl
theorem both_no (L : List Pt) {i : Nat} (h : i < L.length) (hz : (pt L i).lng = Pt.O) : both (L.take (i + 1)) = both (L.take i) := by
  rw [take_pt h, both_app]
  simp [both, hz]
theorem both_yes (L : List Pt) {i : Nat} (h : i < L.length) (hz : (pt L i).lng ≠ Pt.O) : both (L.take (i + 1)) = both (L.take i) ++ [(pt L i).lng, (pt L i).lng.neg] := by
  rw [take_pt h, both_app]
  simp [both, hz]
theorem news_at6 {w : World} {vb : Nat} {x y z x' y' z' : Value} {t : TypeId} (h : w.heap[vb]? = some (.cells #[x, y, z, x', y', z'] t (0, 0))) : ∀ j u, [x, y, z, x', y', z'][j]? = some u → w.cell? ((⟨vb, 0, none⟩ : Addr).add j) = some u := by
  intro j u hj
  have ad : (⟨vb, 0, none⟩ : Addr).add j = ⟨vb, j, none⟩ := by unfold Addr.add; split <;> simp_all
  rw [ad]
  match j, hj with
  | 0, hj => simp at hj; subst hj; simp [World.cell?, h]
  | 1, hj => simp at hj; subst hj; simp [World.cell?, h]
  | 2, hj => simp at hj; subst hj; simp [World.cell?, h]
  | 3, hj => simp at hj; subst hj; simp [World.cell?, h]
  | 4, hj => simp at hj; subst hj; simp [World.cell?, h]
  | 5, hj => simp at hj; subst hj; simp [World.cell?, h]
/-- A region that lays one point (p), appends it (q) and keeps the list (z). -/
def A10 (p q z : Nat) (W7 : World) (B : Nat) (u : Value) (n : Nat) (xs news : List Value) (γ : Nat → Value) (L : Nat → Bool) (w : World) : Prop :=
  ((L q = false ∧ Below W7.heap.size W7 w ∧ (L p = true → ∃ g, γ p = .slice (some ⟨g, 0, none⟩) 1 1 ∧ w.heap[g]? = some (.cells news.toArray 23 (0, 0)))) ∨
  (L q = true ∧ w.ownsRow B 23 3 (γ q) (n + 1) (xs ++ news) ∧ Grew W7 w u (γ q))) ∧ (L z = true → γ z = γ q)
section
variable {p q z : Nat} {W7 : World} {B : Nat} {u : Value} {n : Nat} {xs news : List Value} {γ : Nat → Value} {L : Nat → Bool} {w : World}
theorem A10.start (hp : L p = false) (hq : L q = false) (hz : L z = false) (hb : Below W7.heap.size W7 w) : A10 p q z W7 B u n xs news γ L w := ⟨Or.inl ⟨hq, hb, fun e => by rw [hp] at e; cases e⟩, fun e => by rw [hz] at e; cases e⟩
theorem A10.other (h : A10 p q z W7 B u n xs news γ L w) {i : Nat} (v : Value) (hp : p ≠ i) (hq : q ≠ i) (hz : z ≠ i) : A10 p q z W7 B u n xs news (RV.upd γ i v) (more L i) w := by
  unfold A10
  rw [RV.more_ne hp, RV.more_ne hq, RV.more_ne hz, RV.upd_ne _ _ hp, RV.upd_ne _ _ hq, RV.upd_ne _ _ hz]
  exact h
theorem A10.early (h : A10 p q z W7 B u n xs news γ L w) (hq : L q = false) : Below W7.heap.size W7 w ∧ (L p = true → ∃ g, γ p = .slice (some ⟨g, 0, none⟩) 1 1 ∧ w.heap[g]? = some (.cells news.toArray 23 (0, 0))) := by
  rcases h.1 with h | h
  · exact h.2
  · rw [hq] at h; cases h.1
theorem A10.call {w' : World} (h : A10 p q z W7 B u n xs news γ L w) (hq : L q = false) (hb : Below w.heap.size w w') {i : Nat} (v : Value) (hpi : p ≠ i) (hqi : q ≠ i) (hzi : z ≠ i) : A10 p q z W7 B u n xs news (RV.upd γ i v) (more L i) w' := by
  obtain ⟨h1, h2⟩ := h.early hq
  refine ⟨Or.inl ⟨by rw [RV.more_ne hqi]; exact hq, b_step h1 hb, fun e => ?_⟩, fun e => ?_⟩
  · rw [RV.more_ne hpi] at e
    rw [RV.upd_ne _ _ hpi]
    obtain ⟨g, e1, e2⟩ := h2 e
    exact ⟨g, e1, (hb.block g (Array.getElem?_eq_some_iff.1 e2).1).trans e2⟩
  · rw [RV.more_ne hzi] at e
    rw [RV.upd_ne _ _ hzi, RV.upd_ne _ _ hqi]
    exact h.2 e
theorem A10.lay (h : A10 p q z W7 B u n xs news γ L w) (hq : L q = false) (npq : q ≠ p) (npz : z ≠ p) : A10 p q z W7 B u n xs news (RV.upd γ p (.slice (some ⟨w.heap.size, 0, none⟩) 1 1)) (more L p) (w.alloc (.cells news.toArray 23)) :=
  ⟨Or.inl ⟨by rw [RV.more_ne npq]; exact hq, b_step (h.early hq).1 (n_after _ _), fun _ => ⟨w.heap.size, by rw [RV.upd_self], heap_alloc_new _ _⟩⟩, fun e => by rw [RV.more_ne npz] at e; rw [RV.upd_ne _ _ npz, RV.upd_ne _ _ npq]; exact h.2 e⟩
theorem A10.app {w' : World} {v' : Value} (hz : L z = false) (nqz : z ≠ q) (hr : w'.ownsRow B 23 3 v' (n + 1) (xs ++ news)) (hg : Grew W7 w' u v') : A10 p q z W7 B u n xs news (RV.upd γ q v') (more L q) w' :=
  ⟨Or.inr ⟨RV.more_self, by rw [RV.upd_self]; exact hr, by rw [RV.upd_self]; exact hg⟩, fun e => by rw [RV.more_ne nqz, hz] at e; cases e⟩
theorem A10.set (h : A10 p q z W7 B u n xs news γ L w) (nqz : q ≠ z) (npz : p ≠ z) : A10 p q z W7 B u n xs news (RV.upd γ z (γ q)) (more L z) w := by
  refine ⟨?_, fun _ => by rw [RV.upd_self, RV.upd_ne _ _ nqz]⟩
  rw [RV.more_ne nqz, RV.more_ne npz, RV.upd_ne _ _ nqz, RV.upd_ne _ _ npz]
  exact h.1
theorem A10.done (h : A10 p q z W7 B u n xs news γ L w) (hq : L q = true) (hz : L z = true) : γ z = γ q ∧ w.ownsRow B 23 3 (γ q) (n + 1) (xs ++ news) ∧ Grew W7 w u (γ q) := by
  rcases h.1 with h9 | h9
  · rw [hq] at h9; cases h9.1
  · exact ⟨h.2 hz, h9.2⟩
end
set_option maxHeartbeats 2000000 in
theorem rcross9_any (p q : Pt) (w : World) (hp : p.inB 536870912 = true) (hq : q.inB 536870912 = true) :
    Calls Tryz.prog 75 #[p.v, q.v] w fun e W => e = .returned (p.cross q).v ∧ Below w.heap.size w W := by
  obtain ⟨x, y, z⟩ := p
  obtain ⟨x', y', z'⟩ := q
  rw [Pt.inB_iff] at hp hq
  unfold Pt.v Pt.cross
  dsimp only at *
  have h1 := prod_in hp.2.1 hq.2.2 (by decide)
  have h2 := prod_in hp.2.2 hq.2.1 (by decide)
  have h3 := prod_in hp.2.2 hq.1 (by decide)
  have h4 := prod_in hp.1 hq.2.2 (by decide)
  have h5 := prod_in hp.1 hq.2.1 (by decide)
  have h6 := prod_in hp.2.1 hq.1 (by decide)
  clear hp hq
  go_enter Tryz.func75, Tryz.ntmps75
  go_wp2
  refine bodyPost_ret (v := .agg #[.int .i64 (y * z' - z * y'), .int .i64 (z * x' - x * z'), .int .i64 (x * y' - y * x')]) ?_ rfl ⟨rfl, (((Below.refl _ w).alloc (Nat.le_refl _) _).alloc (by simp) _).alloc (by simp; omega) _⟩
  simp [results, Tryz.results75, go_sem]
end Go.Proofs.YtbhdfjoagajipaaGreat
namespace Go.Proofs.YtbhdfjoagajipaaGreat
open Go.RowKit Go.Shelf
set_option linter.unusedVariables false

theorem CK.one (w0 : World) (l1 : List Value) (t1 : TypeId) : CK w0 (w0.alloc (.cells l1.toArray t1)) w0.heap.size [(w0.heap.size, l1)] (.slice none 0 0) [] (.slice none 0 0) [] := by
  refine ⟨n_after _ _, fun p hp => ?_, Nat.le_refl _, by simp, World.ownsRow_nil _ _ _ _, World.ownsRow_nil _ _ _ _, fun k e => by cases e⟩
  rw [List.mem_singleton.1 hp]
  exact ⟨by simp, (fun e => by cases e), (fun e => by cases e), Cel.new _ _ _⟩
theorem keep_no {M : List Pt} {i : Nat} (h : i < M.length) (hz : pt M i = Pt.O) : keepD (M.take (i + 1)) = keepD (M.take i) := by
  unfold keepD
  rw [take_pt h, List.filter_append, hz]
  simp
theorem keep_add {M : List Pt} {i : Nat} (h : i < M.length) (hz : pt M i ≠ Pt.O) (hl : (keepD (M.take i)).length < 128) : keepD (M.take (i + 1)) = keepD (M.take i) ++ [pt M i] := by
  unfold keepD at *
  rw [take_pt h, List.filter_append]
  have e : List.filter (fun p => decide (p ≠ Pt.O)) [pt M i] = [pt M i] := by simp [hz]
  rw [e]
  rw [List.length_take] at hl
  rw [List.take_append, List.take_of_length_le (l := [pt M i]) (by show 1 ≤ 128 - (List.filter (fun p => decide (p ≠ Pt.O)) (List.take i M)).length; omega)]
theorem keep_full {M : List Pt} {i : Nat} (h : i < M.length) (hz : pt M i ≠ Pt.O) (hl : ¬ (keepD (M.take i)).length < 128) : keepD (M.take (i + 1)) = keepD (M.take i) := by
  unfold keepD at *
  rw [take_pt h, List.filter_append]
  rw [List.length_take] at hl
  rw [List.take_append_of_le_length (by omega)]

set_option maxHeartbeats 4000000 in
set_option maxRecDepth 100000 in
/-- Room for so many, and nothing in it. -/
theorem wgrow_any (n : Nat) (w : World) (hn : n ≤ 1048576) :
    Calls Tryz.prog 115 #[.slice none 0 0, .int .i64 (n : Int)] w fun e W => ∃ u, e = .returned u ∧ W.ownsRow w.heap.size 23 3 u 0 [] ∧ Below w.heap.size w W := by
  by_cases h0 : n = 0
  · subst h0
    go_enter Tryz.func115, Tryz.ntmps115
    go_wp2
    go_ret
    exact ⟨_, rfl, World.ownsRow_nil _ _ _ _, Below.refl _ _⟩
  · obtain ⟨i0, hii, hiz, hisz, hib⟩ := info_parts point_info
    obtain ⟨G, hG⟩ : ∃ G, G = grownCap w n 0 23 := ⟨_, rfl⟩
    obtain ⟨ROW, hROW⟩ : ∃ ROW : Array Value, ROW = Builtin.zeroCells (Value.agg #[.int .i64 0, .int .i64 0, .int .i64 0]).cells n ++ Builtin.zeroCells (Value.agg #[.int .i64 0, .int .i64 0, .int .i64 0]).cells (G - n) := ⟨_, rfl⟩
    have hrz : ∀ ty, (Builtin.append_ #[24, 3] ty #[.slice none 0 0, .int .i64 (n : Int)]).run Tryz.prog w = .ok (.slice (some ⟨w.heap.size, 0, none⟩) n G) (w.drew.alloc (.cells ROW 23)) := fun ty => by
      have h := Lib.run_append_nil_zeros (P := Tryz.prog) w 24 3 ty 23 i0 _ .i64 .i64 Tryz.underlying24 Tryz.underlying3 hii hiz n (by omega) (by omega) (by omega) (by rw [hib]; omega)
      rw [← hG, ← hROW] at h
      exact h
    have hGn : n ≤ G := by rw [hG]; exact grownCap_ge w _ _ _
    have hGm : G ≤ maxLen := by rw [hG]; exact grownCap_le_maxLen w n 0 _ (by unfold maxLen; omega)
    have hRs : ROW.size = G * 3 := by
      rw [hROW]
      simp only [Array.size_append, size_zeroCells]
      simp [Value.cells]
      omega
    obtain ⟨W1, hW1⟩ : ∃ W1, W1 = w.drew.alloc (.cells ROW 23) := ⟨_, rfl⟩
    have hg1 : W1.heap[w.heap.size]? = some (.cells ROW 23 (0, 0)) := by rw [hW1]; exact heap_alloc_new w.drew _
    have HF : Hid (W1.ownsRow w.heap.size 23 3 (.slice (some ⟨w.heap.size, 0, none⟩) 0 G) 0 [] ∧ Below w.heap.size w W1) := ⟨⟨rfl, Or.inr ⟨w.heap.size, G, ROW, rfl, Nat.le_refl _, hg1, Nat.zero_le _, hGm, hRs, by simp⟩⟩, by rw [hW1]; exact (Below.refl _ w).drew.alloc (Nat.le_refl _) _⟩
    rw [← hW1] at hrz
    have h1 : ¬ ((n : Int) < 0) := by omega
    have h2 : (0 : Int) < (n : Int) := by omega
    have h3 : IntKind.i64.wrap (n : Int) = n := by rw [IntKind.wrap_i64]; omega
    have hb6 : ¬ (G = 0) := by omega
    have hG63 : G ≤ 9223372036854775807 := by unfold maxLen at hGm; omega
    have HR : Hid _ := hrz
    clear hW1 hg1 hRs hGm hROW hG hii hiz hisz hib h0 hrz
    go_enter Tryz.func115, Tryz.ntmps115
    go_wp2_with (at_builtin; refine Lib.wpList_append_run _ rfl _ _ _ _ rfl _ _ rfl rfl _ _ (HR.out _) ?_)
    go_ret
    exact ⟨_, rfl, HF.out⟩
set_option maxHeartbeats 8000000 in
set_option maxRecDepth 100000 in
/-- Two lists, one behind the other. -/
theorem wconcat_any (A B : List Pt) (va vb : Value) (g : Nat) (w0 : World) (hA : Lies w0 va A) (hB : Lies w0 vb B) (hc : Cel w0 g [va, vb]) (hN : A.length + B.length ≤ 1048576) :
    Calls Tryz.prog 68 #[.slice (some ⟨g, 0, none⟩) 2 2] w0 fun e W => ∃ u, e = .returned u ∧ Row w0 W u (A ++ B) := by
  have LA : Hid _ := hA
  have LB : Hid _ := hB
  obtain ⟨oa, ca, rfl, _⟩ := hA.form
  obtain ⟨ob, cb, rfl, _⟩ := hB.form
  have HC : Hid _ := hc
  have HG : Hid _ := fun w' => wgrow_any (A.length + B.length) w' hN
  rw [Int.natCast_add] at HG
  clear hA hB hc
  have wa : IntKind.i64.wrap (A.length : Int) = A.length := by rw [IntKind.wrap_i64]; omega
  have wab : IntKind.i64.wrap ((A.length : Int) + (B.length : Int)) = (A.length : Int) + (B.length : Int) := by rw [IntKind.wrap_i64]; omega
  have na : ¬ ((A.length : Int) < 0) := by omega
  have nab : ¬ ((A.length : Int) + (B.length : Int) < 0) := by omega
  have x0 := HC.out 0 _ rfl
  have x1 := HC.out 1 _ rfl
  go_enter Tryz.func68, Tryz.ntmps68
  go_wp2_with (fail)
  go_loopg [3, 11] 2 (fun gm s3 s11 wr => Hid (gm = 2 ∧ s3 = .int .i64 0 ∧ s11 = .int .i64 0 ∨ gm = 1 ∧ s3 = .int .i64 (A.length : Int) ∧ s11 = .int .i64 1 ∨ gm = 0 ∧ s3 = .int .i64 ((A.length : Int) + (B.length : Int)) ∧ s11 = .int .i64 2) ∧ wr = w0)
  case atStart => exact ⟨Or.inl ⟨rfl, rfl, rfl⟩, rfl⟩
  case round =>
    obtain ⟨HR, hwr⟩ := hrel
    rw [hwr]
    clear hwr
    rcases HR.out with ⟨rfl, rfl, rfl⟩ | ⟨rfl, rfl, rfl⟩ | ⟨rfl, rfl, rfl⟩
    · clear HR x1
      go_wp2_with (fail)
      go_roundg 1
      case rel => exact ⟨Or.inr (Or.inl ⟨rfl, rfl, rfl⟩), rfl⟩
      case measure => omega
    · clear HR x0
      go_wp2_with (fail)
      go_roundg 0
      case rel => exact ⟨Or.inr (Or.inr ⟨rfl, rfl, rfl⟩), rfl⟩
      case measure => omega
    · clear HR x0 x1
      go_wp2_with (fail)
      refine Calls.mono (HG.out _) ?_
      rintro e W1 ⟨u, rfl, hr, hb⟩
      have HK : Hid (CK w0 W1 w0.heap.size [(g, [.slice oa A.length ca, .slice ob B.length cb])] u [] (.slice none 0 0) []) := by
        refine ⟨hb, fun p hp => ?_, Nat.le_refl _, hb.size, hr, World.ownsRow_nil _ _ _ _, fun k e => by cases e⟩
        rw [List.mem_singleton.1 hp]
        have hg := Cel.lt HC.out
        exact ⟨Nat.lt_of_lt_of_le hg hb.size, (fun e => by have := (hr.lt _ e).1; omega), (fun e => by cases e), Cel.step HC.out hb⟩
      obtain ⟨o1, c1, e1⟩ := rowp_form hr
      subst e1
      clear hr hb HC HG wa wab na nab
      go_wp2_with (fail)
      go_loopg [6, 27] 2 (fun gm s6 s27 wr2 => ∃ (o2 : Option Addr) (c2 : Nat) (X : List Pt), s6 = .slice o2 X.length c2 ∧ Hid (CK w0 wr2 w0.heap.size [(g, [.slice oa A.length ca, .slice ob B.length cb])] (.slice o2 X.length c2) X (.slice none 0 0) []) ∧ Hid (gm = 2 ∧ X = [] ∧ s27 = .int .i64 0 ∨ gm = 1 ∧ X = A ∧ s27 = .int .i64 1 ∨ gm = 0 ∧ X = A ++ B ∧ s27 = .int .i64 2))
      case atStart => exact ⟨o1, c1, [], rfl, HK, Or.inl ⟨rfl, rfl, rfl⟩⟩
      case round =>
        clear HK
        obtain ⟨o2, c2, X, rfl, HK, HR⟩ := hrel
        have x0 := (HK.out.at (List.mem_singleton.2 rfl)) 0 _ rfl
        have x1 := (HK.out.at (List.mem_singleton.2 rfl)) 1 _ rfl
        rcases HR.out with ⟨rfl, rfl, rfl⟩ | ⟨rfl, rfl, rfl⟩ | ⟨rfl, rfl, rfl⟩
        · clear HR x1
          go_wp2_with (at_builtin; refine append_lies rfl _ _ rfl w0.heap.size _ [] rfl HK.out.own _ A rfl (LA.out.below HK.out.below) (by first | omega | (simp; omega)) HK.out.hx ?_; intro u9 V9 r8 g8 s8; have HK9 : Hid _ := HK.out.grew r8 (grewOf g8 s8); obtain ⟨o9, c9, e9⟩ := rowp_form HK9.out.own; subst e9; clear r8 g8 s8)
          clear x0
          go_roundg 1
          case rel => exact ⟨o9, c9, A, rfl, HK9, Or.inr (Or.inl ⟨rfl, rfl, rfl⟩)⟩
          case measure => omega
        · clear HR x0
          go_wp2_with (at_builtin; refine append_lies rfl _ _ rfl w0.heap.size _ X rfl HK.out.own _ B rfl (LB.out.below HK.out.below) (by first | omega | (simp; omega)) HK.out.hx ?_; intro u9 V9 r8 g8 s8; have HK9 : Hid _ := HK.out.grew r8 (grewOf g8 s8); obtain ⟨o9, c9, e9⟩ := rowp_form HK9.out.own; subst e9; clear r8 g8 s8)
          clear x1
          go_roundg 0
          case rel => exact ⟨o9, c9, X ++ B, by rw [List.length_append], HK9, Or.inr (Or.inr ⟨rfl, rfl, rfl⟩)⟩
          case measure => omega
        · clear HR x0 x1
          go_wp2_with (fail)
          go_ret
          exact ⟨_, rfl, HK.out.own, HK.out.below⟩
set_option maxHeartbeats 8000000 in
set_option maxRecDepth 100000 in
/-- Points, each with the same one added. -/
theorem wmoved_any (Ls : List Pt) (q : Pt) (v : Value) (w0 : World) (hv : Lies w0 v Ls) (hP : ∀ p ∈ Ls, p.inB 1152921504606846976 = true) (hq : q.inB 1152921504606846976 = true) (hN : Ls.length ≤ 1048576) :
    Calls Tryz.prog 59 #[v, q.v] w0 fun e W => ∃ u, e = .returned u ∧ Row w0 W u (Ls.map (·.mov q)) := by
  have HPL : Hid _ := fun (p : Pt) (hp : p ∈ Ls) (w' : World) => wplus_any p q w' (hP p hp) hq
  have HV : Hid _ := hv
  obtain ⟨o, cap, rfl, hlc, hcm, _⟩ := hv.form
  obtain ⟨i0, h1, h2, h3, h4⟩ := info_parts point_info
  have HI : Hid _ := And.intro h1 (And.intro h2 (And.intro h3 h4))
  clear hv hP hq h1 h2 h3 h4
  obtain ⟨W1, hW1⟩ : ∃ V, V = w0.alloc (.cells #[.int .i64 q.x, .int .i64 q.y, .int .i64 q.z] 23) := ⟨_, rfl⟩
  obtain ⟨bb, hbb⟩ : ∃ b, b = w0.heap.size := ⟨_, rfl⟩
  have HK : Hid (CK w0 W1 w0.heap.size [(bb, [.int .i64 q.x, .int .i64 q.y, .int .i64 q.z])] (.slice none 0 0) [] (.slice none 0 0) []) := by show CK _ _ _ _ _ _ _ _; rw [hW1, hbb]; exact CK.one w0 [.int .i64 q.x, .int .i64 q.y, .int .i64 q.z] _
  unfold Pt.v at *
  go_enter Tryz.func59, Tryz.ntmps59
  go_upto_region 1 with fail
  rw [← hW1, ← hbb]
  clear hW1 hbb
  go_wp2_with (fail)
  go_loopg [5, 10] Ls.length (fun gm s5 s10 wr => ∃ (i : Nat) (o2 : Option Addr) (c2 : Nat) (X : List Pt), s5 = .slice o2 X.length c2 ∧ s10 = .int .i64 (i : Int) ∧ i ≤ Ls.length ∧ X.length ≤ i ∧ Hid (gm = Ls.length - i) ∧ Hid (CK w0 wr w0.heap.size [(bb, [.int .i64 q.x, .int .i64 q.y, .int .i64 q.z])] (.slice o2 X.length c2) X (.slice none 0 0) []) ∧ Hid (X = (Ls.take i).map (·.mov q)))
  case atStart => exact ⟨0, none, 0, [], rfl, rfl, Nat.zero_le _, Nat.le_refl _, rfl, HK, by show _ = _; simp⟩
  case round =>
    clear HK
    obtain ⟨i, o2, c2, X, rfl, rfl, hi9, hX9, HG, HK, HE⟩ := hrel
    by_cases hit : i < Ls.length
    · obtain ⟨o', cap', e', _, _, hcl⟩ := (HV.out.below HK.out.below).form
      cases e'
      obtain ⟨ge, fe, rfl, x0, x1, x2⟩ := hcl i hit
      clear hcl
      have HPLi : Hid _ := HPL.out (pt Ls i) (pt_mem hit)
      have HNX : Hid _ := map_take (·.mov q) Ls hit
      obtain ⟨p, hpe⟩ : ∃ x, pt Ls i = x := ⟨_, rfl⟩
      rw [hpe] at x0 x1 x2 HNX HPLi
      clear hpe HPL
      have z0 := (HK.out.at (List.mem_singleton.2 rfl)) 0 _ rfl
      have z1 := (HK.out.at (List.mem_singleton.2 rfl)) 1 _ rfl
      have z2 := (HK.out.at (List.mem_singleton.2 rfl)) 2 _ rfl
      have hbl := World.block_lt_of_cell? _ _ z0
      dsimp only at hbl
      obtain ⟨r, hr⟩ : ∃ x, p.mov q = x := ⟨_, rfl⟩
      rw [hr] at HPLi HNX
      clear hr
      go_wp2_with (fail)
      refine Calls.mono (HPLi.out _) ?_
      rintro e V2 ⟨rfl, hb⟩
      have HK : Hid _ := HK.out.step (b_step (n_after wr _) hb)
      clear hb x0 x1 x2 z0 z1 z2 hbl HPLi
      go_wp2_with (at_builtin; refine wpList_append_own_at _ rfl _ _ 24 rfl w0.heap.size 23 i0 _ 3 24 Tryz.underlying24 HI.out.1 HI.out.2.1 HI.out.2.2.1 HI.out.2.2.2 rfl (by decide) _ _ _ rfl (own_below HK.out.own (n_after V2 _)) ⟨V2.heap.size, 0, none⟩ 1 1 [.int .i64 r.x, .int .i64 r.y, .int .i64 r.z] rfl rfl (news_at (heap_alloc_new V2 _)) (by intro u hu; simp at hu; rcases hu with rfl | rfl | rfl <;> rfl) (by unfold maxLen; omega) (by omega) (by have := HK.out.hx; simp; omega) ?_; intro u9 V9 r8 g8 _ s8; have HK9 : Hid _ := CK.app r (HK.out.step (n_after V2 _)) r8 (grewOf g8 s8); obtain ⟨o9, c9, e9⟩ := rowp_form HK9.out.own; subst e9; clear r8 g8 s8)
      go_roundg (Ls.length - (i + 1))
      case measure => have := HG.out; omega
      case rel => exact ⟨i + 1, o9, c9, X ++ [r], by rw [List.length_append]; rfl, by go_num, by omega, by rw [List.length_append]; simp; omega, rfl, HK9, by show _ = _; rw [HNX.out, HE.out]⟩
    · obtain rfl : i = Ls.length := by omega
      have HE : Hid (X = Ls.map (·.mov q)) := by show _ = _; rw [HE.out, List.take_length]
      go_wp2_with (fail)
      exact bodyPost_ret (v := .slice o2 X.length c2) (by simp [results, Tryz.results59, go_sem]) rfl ⟨_, rfl, by show Row _ _ _ _; rw [← HE.out]; exact ⟨HK.out.own, HK.out.below⟩⟩
set_option maxHeartbeats 8000000 in
set_option maxRecDepth 100000 in
/-- The directions across what each edge sweeps over. -/
theorem wacross_any (Ls : List Pt) (q : Pt) (v : Value) (w0 : World) (hv : Lies w0 v Ls) (hP : ∀ p ∈ Ls, p.inB 1048576 = true) (hq : q.inB 1048576 = true) (hN : Ls.length ≤ 1048576) :
    Calls Tryz.prog 71 #[v, q.v] w0 fun e W => ∃ u, e = .returned u ∧ Row w0 W u (Ls.map (fun e => (e.cross q).short)) := by
  have HPL : Hid _ := fun (p : Pt) (hp : p ∈ Ls) (w' : World) => wcross_any p q w' (hP p hp) hq
  have HSH : Hid _ := fun (p : Pt) (hp : p ∈ Ls) (w' : World) => short_any (p.cross q) w'
  have HV : Hid _ := hv
  obtain ⟨o, cap, rfl, hlc, hcm, _⟩ := hv.form
  obtain ⟨i0, h1, h2, h3, h4⟩ := info_parts point_info
  have HI : Hid _ := And.intro h1 (And.intro h2 (And.intro h3 h4))
  clear hv hP hq h1 h2 h3 h4
  obtain ⟨W1, hW1⟩ : ∃ V, V = w0.alloc (.cells #[.int .i64 q.x, .int .i64 q.y, .int .i64 q.z] 23) := ⟨_, rfl⟩
  obtain ⟨bb, hbb⟩ : ∃ b, b = w0.heap.size := ⟨_, rfl⟩
  have HK : Hid (CK w0 W1 w0.heap.size [(bb, [.int .i64 q.x, .int .i64 q.y, .int .i64 q.z])] (.slice none 0 0) [] (.slice none 0 0) []) := by show CK _ _ _ _ _ _ _ _; rw [hW1, hbb]; exact CK.one w0 [.int .i64 q.x, .int .i64 q.y, .int .i64 q.z] _
  unfold Pt.v at *
  go_enter Tryz.func71, Tryz.ntmps71
  go_upto_region 1 with fail
  rw [← hW1, ← hbb]
  clear hW1 hbb
  go_wp2_with (fail)
  go_loopg [5, 10] Ls.length (fun gm s5 s10 wr => ∃ (i : Nat) (o2 : Option Addr) (c2 : Nat) (X : List Pt), s5 = .slice o2 X.length c2 ∧ s10 = .int .i64 (i : Int) ∧ i ≤ Ls.length ∧ X.length ≤ i ∧ Hid (gm = Ls.length - i) ∧ Hid (CK w0 wr w0.heap.size [(bb, [.int .i64 q.x, .int .i64 q.y, .int .i64 q.z])] (.slice o2 X.length c2) X (.slice none 0 0) []) ∧ Hid (X = (Ls.take i).map (fun e => (e.cross q).short)))
  case atStart => exact ⟨0, none, 0, [], rfl, rfl, Nat.zero_le _, Nat.le_refl _, rfl, HK, by show _ = _; simp⟩
  case round =>
    clear HK
    obtain ⟨i, o2, c2, X, rfl, rfl, hi9, hX9, HG, HK, HE⟩ := hrel
    by_cases hit : i < Ls.length
    · obtain ⟨o', cap', e', _, _, hcl⟩ := (HV.out.below HK.out.below).form
      cases e'
      obtain ⟨ge, fe, rfl, x0, x1, x2⟩ := hcl i hit
      clear hcl
      have HPLi : Hid _ := HPL.out (pt Ls i) (pt_mem hit)
      have HSHi : Hid _ := HSH.out (pt Ls i) (pt_mem hit)
      have HNX : Hid _ := map_take (fun e => (e.cross q).short) Ls hit
      obtain ⟨p, hpe⟩ : ∃ x, pt Ls i = x := ⟨_, rfl⟩
      rw [hpe] at x0 x1 x2 HNX HPLi HSHi
      clear hpe HPL HSH
      have z0 := (HK.out.at (List.mem_singleton.2 rfl)) 0 _ rfl
      have z1 := (HK.out.at (List.mem_singleton.2 rfl)) 1 _ rfl
      have z2 := (HK.out.at (List.mem_singleton.2 rfl)) 2 _ rfl
      have hbl := World.block_lt_of_cell? _ _ z0
      dsimp only at hbl
      obtain ⟨r, hr⟩ : ∃ x, (p.cross q).short = x := ⟨_, rfl⟩
      rw [hr] at HSHi HNX
      obtain ⟨cr9, hcr⟩ : ∃ x, p.cross q = x := ⟨_, rfl⟩
      rw [hcr] at HPLi HSHi
      clear hcr
      clear hr
      go_wp2_with (fail)
      refine Calls.mono (HPLi.out _) ?_
      rintro e V2 ⟨rfl, hb⟩
      have HK : Hid _ := HK.out.step (b_step (n_after wr _) hb)
      clear hb x0 x1 x2 z0 z1 z2 hbl HPLi
      go_wp2_with (fail)
      refine Calls.mono (HSHi.out _) ?_
      rintro e V3 ⟨rfl, hb⟩
      have HK : Hid _ := HK.out.step hb
      clear hb HSHi
      go_wp2_with (at_builtin; refine wpList_append_own_at _ rfl _ _ 24 rfl w0.heap.size 23 i0 _ 3 24 Tryz.underlying24 HI.out.1 HI.out.2.1 HI.out.2.2.1 HI.out.2.2.2 rfl (by decide) _ _ _ rfl (own_below HK.out.own (n_after V3 _)) ⟨V3.heap.size, 0, none⟩ 1 1 [.int .i64 r.x, .int .i64 r.y, .int .i64 r.z] rfl rfl (news_at (heap_alloc_new V3 _)) (by intro u hu; simp at hu; rcases hu with rfl | rfl | rfl <;> rfl) (by unfold maxLen; omega) (by omega) (by have := HK.out.hx; simp; omega) ?_; intro u9 V9 r8 g8 _ s8; have HK9 : Hid _ := CK.app r (HK.out.step (n_after V3 _)) r8 (grewOf g8 s8); obtain ⟨o9, c9, e9⟩ := rowp_form HK9.out.own; subst e9; clear r8 g8 s8)
      go_roundg (Ls.length - (i + 1))
      case measure => have := HG.out; omega
      case rel => exact ⟨i + 1, o9, c9, X ++ [r], by rw [List.length_append]; rfl, by go_num, by omega, by rw [List.length_append]; simp; omega, rfl, HK9, by show _ = _; rw [HNX.out, HE.out]⟩
    · obtain rfl : i = Ls.length := by omega
      have HE : Hid (X = Ls.map (fun e => (e.cross q).short)) := by show _ = _; rw [HE.out, List.take_length]
      go_wp2_with (fail)
      exact bodyPost_ret (v := .slice o2 X.length c2) (by simp [results, Tryz.results71, go_sem]) rfl ⟨_, rfl, by show Row _ _ _ _; rw [← HE.out]; exact ⟨HK.out.own, HK.out.below⟩⟩
set_option maxHeartbeats 8000000 in
set_option maxRecDepth 100000 in
/-- Those of both lists that are no noughts, at most 128. -/
theorem wdirs_any (A B : List Pt) (va vb : Value) (w0 : World) (hA : Lies w0 va A) (hB : Lies w0 vb B) (hN : A.length + B.length ≤ 1048576) :
    Calls Tryz.prog 70 #[va, vb] w0 fun e W => ∃ u, e = .returned u ∧ Row w0 W u (keepD (A ++ B)) := by
  have HCC : Hid _ := fun (g : Nat) (w' : World) (h : Below w0.heap.size w0 w') (hc : Cel w' g [va, vb]) => wconcat_any A B va vb g w' (hA.below h) (hB.below h) hc hN
  obtain ⟨i0, h1, h2, h3, h4⟩ := info_parts point_info
  have HI : Hid _ := And.intro h1 (And.intro h2 (And.intro h3 h4))
  clear h1 h2 h3 h4
  obtain ⟨M, hM⟩ : ∃ M, A ++ B = M := ⟨_, rfl⟩
  have hMN : M.length ≤ 1048576 := by rw [← hM, List.length_append]; exact hN
  rw [hM] at HCC ⊢
  clear hM hN
  obtain ⟨oa, ca, rfl, _⟩ := hA.form
  obtain ⟨ob, cb, rfl, _⟩ := hB.form
  obtain ⟨W1, hW1⟩ : ∃ V, V = w0.alloc (.cells #[.slice oa A.length ca, .slice ob B.length cb] 24) := ⟨_, rfl⟩
  have hb1 : Below w0.heap.size w0 W1 := by rw [hW1]; exact n_after _ _
  have CV : Cel W1 w0.heap.size [.slice oa A.length ca, .slice ob B.length cb] := by rw [hW1]; exact Cel.new w0 [.slice oa A.length ca, .slice ob B.length cb] _
  have HCL : Hid _ := HCC.out w0.heap.size W1 hb1 CV
  have HB : Hid _ := hb1
  clear HCC hA hB hb1 CV
  go_enter Tryz.func70, Tryz.ntmps70
  go_wp2_with (fail)
  rw [← hW1]
  clear hW1
  refine Calls.mono HCL.out ?_
  rintro e V1 ⟨u, rfl, hrow, hb⟩
  have HK : Hid (CK w0 V1 w0.heap.size [] (.slice none 0 0) [] u M) := ⟨b_step HB.out hb, (fun p hp => by cases hp), Nat.le_refl _, Nat.le_trans HB.out.size hb.size, World.ownsRow_nil _ _ _ _, own_le hrow HB.out.size, (fun k e e2 => by cases e2)⟩
  obtain ⟨o, c, e1⟩ := rowp_form hrow
  subst e1
  clear hrow hb HB HCL
  go_wp2_with (fail)
  go_loopg [5, 13] M.length (fun gm s5 s13 wr => ∃ (i : Nat) (o2 : Option Addr) (c2 : Nat) (X : List Pt), s5 = .slice o2 X.length c2 ∧ s13 = .int .i64 (i : Int) ∧ i ≤ M.length ∧ X.length ≤ 128 ∧ Hid (gm = M.length - i) ∧ Hid (CK w0 wr w0.heap.size [] (.slice o2 X.length c2) X (.slice o M.length c) M) ∧ Hid (X = keepD (M.take i)))
  case atStart => exact ⟨0, none, 0, [], rfl, rfl, Nat.zero_le _, by simp, rfl, HK, by show _ = _; simp [keepD]⟩
  case round =>
    clear HK
    obtain ⟨i, o2, c2, X, rfl, rfl, hi9, hX9, HG, HK, HE⟩ := hrel
    by_cases hit : i < M.length
    · obtain ⟨o', cap', e', _, _, hcl⟩ := (Lies.of_row HK.out.two).form
      cases e'
      obtain ⟨ge, fe, rfl, x0, x1, x2⟩ := hcl i hit
      clear hcl
      have HN0 : Hid (pt M i = Pt.O → keepD (M.take (i + 1)) = X) := fun h => by rw [HE.out]; exact keep_no hit h
      have HN1 : Hid (pt M i ≠ Pt.O → X.length < 128 → keepD (M.take (i + 1)) = X ++ [pt M i]) := fun h h' => by rw [HE.out] at h' ⊢; exact keep_add hit h h'
      have HN2 : Hid (pt M i ≠ Pt.O → ¬ X.length < 128 → keepD (M.take (i + 1)) = X) := fun h h' => by rw [HE.out] at h' ⊢; exact keep_full hit h h'
      obtain ⟨p, hpe⟩ : ∃ x, pt M i = x := ⟨_, rfl⟩
      rw [hpe] at x0 x1 x2 HN0 HN1 HN2
      clear hpe HE
      obtain ⟨qx, qy, qz⟩ := p
      dsimp only at x0 x1 x2
      obtain ⟨V8, hV8⟩ : ∃ W, W = wr.alloc (.cells #[.int .i64 qx, .int .i64 qy, .int .i64 qz] 23) := ⟨_, rfl⟩
      obtain ⟨nb, hnb⟩ : ∃ b, b = wr.heap.size := ⟨_, rfl⟩
      have HB8 : Hid (Box3 V8 nb ⟨qx, qy, qz⟩) := by show Box3 _ _ _; rw [hV8, hnb]; exact Box3.new wr qx qy qz _
      have HK : Hid _ := HK.out.step (n_after wr (.cells #[.int .i64 qx, .int .i64 qy, .int .i64 qz] 23))
      rw [← hV8] at HK
      have hl1 : (i : Int) < (M.length : Int) := by omega
      go_upto_region 5 with fail
      rw [← hV8, ← hnb]
      clear hV8 hnb x0 x1 x2
      obtain ⟨d0, d1, d2, _, _, _⟩ := HB8.out
      dsimp only at d0 d1 d2
      by_cases hz : (⟨qx, qy, qz⟩ : Pt) = Pt.O
      · have HE9 : Hid _ := HN0.out hz
        have e3 : qx = 0 ∧ qy = 0 ∧ qz = 0 := by simpa [Pt.O] using hz
        obtain ⟨rfl, rfl, rfl⟩ := e3
        clear HN0 HN1 HN2 hz
        go_wp2_with (fail)
        clear d0 d1 d2
        go_roundg (M.length - (i + 1))
        case measure => have := HG.out; omega
        case rel => exact ⟨i + 1, o2, c2, X, rfl, by go_num, by omega, by omega, rfl, HK, by show _ = _; rw [HE9.out]⟩
      · have hz3 : qx = 0 → qy = 0 → ¬ qz = 0 := fun a b c => hz (by rw [a, b, c]; rfl)
        by_cases hlen : X.length < 128
        · have HE9 : Hid _ := HN1.out hz hlen
          have hl8 : (X.length : Int) < 128 := by omega
          clear HN0 HN1 HN2 hz hlen
          go_cut [24] from 16 to 25 (fun s24 wx => s24 = .bool true ∧ wx = V8)
          case first =>
            go_wp2_with (fail)
            all_goals first
              | (exfalso; exact hz3 (by assumption) (by assumption) (by assumption))
              | (go_meet; case rel => exact ⟨rfl, rfl⟩)
          case rest =>
            obtain ⟨rfl, e9⟩ := hcut
            rw [e9]
            clear hz3 e9
            go_wp2_with (at_builtin; refine wpList_append_own_at _ rfl _ _ 24 rfl w0.heap.size 23 i0 _ 3 24 Tryz.underlying24 HI.out.1 HI.out.2.1 HI.out.2.2.1 HI.out.2.2.2 rfl (by decide) _ _ _ rfl (own_below HK.out.own (n_after V8 _)) ⟨V8.heap.size, 0, none⟩ 1 1 [.int .i64 qx, .int .i64 qy, .int .i64 qz] rfl rfl (news_at (heap_alloc_new V8 _)) (by intro u hu; simp at hu; rcases hu with rfl | rfl | rfl <;> rfl) (by unfold maxLen; omega) (by omega) (by have := HK.out.hx; simp; omega) ?_; intro u9 V9 r8 g8 _ s8; have HK9 : Hid _ := CK.app ⟨qx, qy, qz⟩ (HK.out.step (n_after V8 _)) r8 (grewOf g8 s8); obtain ⟨o9, c9, e9⟩ := rowp_form HK9.out.own; subst e9; clear r8 g8 s8)
            clear d0 d1 d2
            go_roundg (M.length - (i + 1))
            case measure => have := HG.out; omega
            case rel => exact ⟨i + 1, o9, c9, X ++ [⟨qx, qy, qz⟩], by rw [List.length_append]; rfl, by go_num, by omega, by rw [List.length_append]; simp; omega, rfl, HK9, by show _ = _; rw [HE9.out]⟩
        · have HE9 : Hid _ := HN2.out hz hlen
          have hl8 : ¬ (X.length : Int) < 128 := by omega
          clear HN0 HN1 HN2 hz hlen
          go_cut [24] from 16 to 25 (fun s24 wx => s24 = .bool false ∧ wx = V8)
          case first =>
            go_wp2_with (fail)
            all_goals first
              | (exfalso; exact hz3 (by assumption) (by assumption) (by assumption))
              | (go_meet; case rel => exact ⟨rfl, rfl⟩)
          case rest =>
            obtain ⟨rfl, e9⟩ := hcut
            rw [e9]
            clear hz3 e9 d0 d1 d2
            go_wp2_with (fail)
            go_roundg (M.length - (i + 1))
            case measure => have := HG.out; omega
            case rel => exact ⟨i + 1, o2, c2, X, rfl, by go_num, by omega, by omega, rfl, HK, by show _ = _; rw [HE9.out]⟩
    · obtain rfl : i = M.length := by omega
      have HE : Hid (X = keepD M) := by show _ = _; rw [HE.out, List.take_length]
      go_wp2_with (fail)
      exact bodyPost_ret (v := .slice o2 X.length c2) (by simp [results, Tryz.results70, go_sem]) rfl ⟨_, rfl, by show Row _ _ _ _; rw [← HE.out]; exact ⟨HK.out.own, HK.out.below⟩⟩
end Go.Proofs.YtbhdfjoagajipaaGreat
namespace Go.Proofs.YtbhdfjoagajipaaGreat
open Go.RowKit Go.Shelf
set_option linter.unusedVariables false

theorem go_lens {a : Cr} {w : Pt} (h : goB a w = true) : a.A.length ≤ 128 ∧ a.E.length ≤ 128 := by
  unfold goB at h
  simp only [Bool.and_eq_true, decide_eq_true_eq, List.all_eq_true] at h
  exact ⟨h.1.1.1.2.1, h.1.1.2.1⟩
set_option maxHeartbeats 2000000 in
theorem rmay11_any (p : Pt) (w : World) :
    Calls Tryz.prog 73 #[p.v] w fun e W => e = .returned (.bool (p.inB 4194304)) ∧ Below w.heap.size w W := by
  obtain ⟨x, y, z⟩ := p
  have HI : Hid (Pt.inB ⟨x, y, z⟩ 4194304 = decide ((-4194304 ≤ x ∧ x ≤ 4194304) ∧ (-4194304 ≤ y ∧ y ≤ 4194304) ∧ (-4194304 ≤ z ∧ z ≤ 4194304))) := rfl
  obtain ⟨R9, hR9⟩ : ∃ R9, Pt.inB ⟨x, y, z⟩ 4194304 = R9 := ⟨_, rfl⟩
  rw [hR9] at HI ⊢
  clear hR9
  unfold Pt.v
  dsimp only
  by_cases h1 : -4194304 ≤ x
  · by_cases h2 : x ≤ 4194304
    · by_cases h3 : -4194304 ≤ y
      · by_cases h4 : y ≤ 4194304
        · by_cases h5 : -4194304 ≤ z
          · by_cases h6 : z ≤ 4194304
            · have e9 : R9 = true := by rw [HI.out]; simp [h1, h2, h3, h4, h5, h6]
              subst e9
              go_enter Tryz.func73, Tryz.ntmps73
              go_wp2
              go_ret
              exact ⟨rfl, n_after _ _⟩
            · have e9 : R9 = false := by rw [HI.out]; simp [h6]
              subst e9
              go_enter Tryz.func73, Tryz.ntmps73
              go_wp2
              go_ret
              exact ⟨rfl, n_after _ _⟩
          · have e9 : R9 = false := by rw [HI.out]; simp [h5]
            subst e9
            go_enter Tryz.func73, Tryz.ntmps73
            go_wp2
            go_ret
            exact ⟨rfl, n_after _ _⟩
        · have e9 : R9 = false := by rw [HI.out]; simp [h4]
          subst e9
          go_enter Tryz.func73, Tryz.ntmps73
          go_wp2
          go_ret
          exact ⟨rfl, n_after _ _⟩
      · have e9 : R9 = false := by rw [HI.out]; simp [h3]
        subst e9
        go_enter Tryz.func73, Tryz.ntmps73
        go_wp2
        go_ret
        exact ⟨rfl, n_after _ _⟩
    · have e9 : R9 = false := by rw [HI.out]; simp [h2]
      subst e9
      go_enter Tryz.func73, Tryz.ntmps73
      go_wp2
      go_ret
      exact ⟨rfl, n_after _ _⟩
  · have e9 : R9 = false := by rw [HI.out]; simp [h1]
    subst e9
    go_enter Tryz.func73, Tryz.ntmps73
    go_wp2
    go_ret
    exact ⟨rfl, n_after _ _⟩

set_option maxHeartbeats 8000000 in
set_option maxRecDepth 100000 in
theorem rwith11_any (A B : List Pt) (va vb : Value) (w0 : World) (ha : Lies w0 va A) (hb : Lies w0 vb B) (hl : A.length + B.length < 1099511627776) :
    Calls Tryz.prog 76 #[va, vb] w0 fun e W => ∃ u, e = .returned u ∧ Hid (W.ownsRow w0.heap.size 23 3 u (keepD (A ++ B)).length (fl3 (keepD (A ++ B))) ∧ Below w0.heap.size w0 W) := by
  obtain ⟨i0, hii, hiz, hisz, hib⟩ := info_parts point_info
  have HI : Hid _ := And.intro hii (And.intro hiz (And.intro hisz hib))
  clear hii hiz hisz hib
  have HA : Hid _ := ha
  have HBB : Hid _ := hb
  have HLL : Hid _ := hl
  obtain ⟨oa, ca, rfl, _⟩ := ha.form
  obtain ⟨ob, cb, rfl, _⟩ := hb.form
  clear ha hb hl
  go_enter Tryz.func76, Tryz.ntmps76
  go_upto_region 3 with (at_builtin; refine append_lies rfl _ _ rfl w0.heap.size _ [] rfl (World.ownsRow_nil _ _ _ _) _ A rfl HA.out (by have := HLL.out; simp; omega) (Nat.le_refl _) ?_; intro u1 V1 r1 g1 _; rw [List.nil_append] at r1; have hb1 : Below w0.heap.size w0 V1 := (Below.refl _ _).grown g1 (Nat.le_refl _) (fun k e => by cases e); have HB1 : Hid _ := hb1; have HR1 : Hid (World.ownsRow _ _ _ _ _ _ _) := r1; obtain ⟨o1, c1, e1⟩ := rowp_form r1; subst e1; clear r1 g1 hb1)
  go_upto_region 4 with (at_builtin; refine append_lies rfl _ _ rfl w0.heap.size _ A rfl HR1.out _ B rfl (HBB.out.below HB1.out) (by have := HLL.out; omega) HB1.out.size ?_; intro u2 V2 r2 g2 _; have hb2 : Below w0.heap.size w0 V2 := HB1.out.grown g2 HB1.out.size (fun k e => (World.ownsRow.lt HR1.out k e).1); have HB2 : Hid _ := hb2; have HR2 : Hid (World.ownsRow _ _ _ _ _ _ _) := r2; obtain ⟨o2, c2, e2⟩ := rowp_form r2; subst e2; clear r2 g2 hb2)
  obtain ⟨M, hM⟩ : ∃ M, A ++ B = M := ⟨_, rfl⟩
  rw [hM] at HR2
  rw [show A.length + B.length = M.length by rw [← hM, List.length_append]]
  have HMM : Hid _ := hM
  have hml : M.length < 1099511627776 := by rw [← hM, List.length_append]; exact HLL.out
  have HML : Hid _ := hml
  have HLM : Hid _ := Lies.of_row HR2.out
  clear hM hml HR2 HR1 HB1 HA HBB HLL
  go_wp2_with (fail)
  go_loopg [6, 7] M.length (fun gm s6 s7 wr => ∃ (i : Nat) (K : List Pt) (oo : Option Addr) (cc : Nat), s6 = .slice oo K.length cc ∧ s7 = .int .i64 (i : Int) ∧ i ≤ M.length ∧ Hid (gm = M.length - i) ∧ Hid (K = keepD (M.take i)) ∧ Hid (wr.ownsRow V2.heap.size 23 3 (.slice oo K.length cc) K.length (fl3 K)) ∧ Hid (Below V2.heap.size V2 wr))
  case atStart => exact ⟨0, [], none, 0, rfl, rfl, Nat.zero_le _, rfl, rfl, World.ownsRow_nil _ _ _ _, Below.refl _ _⟩
  case round =>
    obtain ⟨i, K, oo, cc, rfl, rfl, hi9, HG, HK, HR, HB9⟩ := hrel
    by_cases hit : i < M.length
    · have hl1 : (i : Int) < (M.length : Int) := by omega
      obtain ⟨o', cap', e', _, _, hcl⟩ := (HLM.out.below HB9.out).form
      cases e'
      obtain ⟨gm9, fm9, rfl, p0, p1, p2⟩ := hcl i hit
      have hno := fun hz => keep_no (M := M) hit hz
      have hadd := fun hz hl => keep_add (M := M) hit hz hl
      have hful := fun hz hl => keep_full (M := M) hit hz hl
      rw [← HK.out] at hno hadd hful
      obtain ⟨⟨px, py, pz⟩, hpt⟩ : ∃ q, pt M i = q := ⟨_, rfl⟩
      rw [hpt] at p0 p1 p2 hno hadd hful
      dsimp only at p0 p1 p2
      have hkl : K.length ≤ 128 := by rw [HK.out]; exact keep_len _
      clear hcl hpt HK
      obtain ⟨bz, hbz⟩ : ∃ b, b = decide ((⟨px, py, pz⟩ : Pt) ≠ Pt.O ∧ K.length < 128) := ⟨_, rfl⟩
      have HBZ : Hid _ := hbz
      have HKL : Hid _ := hkl
      clear hbz hkl
      go_upto_region 8 with fail
      go_cut [30] from 20 to 30 (fun s30 wx => s30 = .bool bz ∧ wx = wr)
      case first =>
        have hkl := HKL.out
        clear hno hadd hful HR
        by_cases hx : px = 0
        · subst hx
          by_cases hy : py = 0
          · subst hy
            by_cases hz : pz = 0
            · subst hz
              have e9 : bz = false := by rw [HBZ.out]; exact decide_eq_false (fun h => h.1 rfl)
              subst e9
              clear HBZ HKL hkl
              go_wp2_with (fail)
              go_meet
              case rel => exact ⟨rfl, rfl⟩
            · have hne : (⟨0, 0, pz⟩ : Pt) ≠ Pt.O := fun h => hz (congrArg Pt.z h)
              have hb : (pz == 0) = false := beq_eq_false_iff_ne.2 hz
              by_cases hk : K.length < 128
              · have hk2 : ((K.length : Nat) : Int) < 128 := by omega
                have e9 : bz = true := by rw [HBZ.out]; exact decide_eq_true ⟨hne, hk⟩
                subst e9
                clear HBZ hne
                go_wp2_with (fail)
                go_meet
                case rel => exact ⟨rfl, rfl⟩
              · have hk2 : ¬ ((K.length : Nat) : Int) < 128 := by omega
                have e9 : bz = false := by rw [HBZ.out]; exact decide_eq_false (fun h => hk h.2)
                subst e9
                clear HBZ hne
                go_wp2_with (fail)
                go_meet
                case rel => exact ⟨rfl, rfl⟩
          · have hne : (⟨0, py, pz⟩ : Pt) ≠ Pt.O := fun h => hy (congrArg Pt.y h)
            have hb : (py == 0) = false := beq_eq_false_iff_ne.2 hy
            by_cases hk : K.length < 128
            · have hk2 : ((K.length : Nat) : Int) < 128 := by omega
              have e9 : bz = true := by rw [HBZ.out]; exact decide_eq_true ⟨hne, hk⟩
              subst e9
              clear HBZ hne
              go_wp2_with (fail)
              go_meet
              case rel => exact ⟨rfl, rfl⟩
            · have hk2 : ¬ ((K.length : Nat) : Int) < 128 := by omega
              have e9 : bz = false := by rw [HBZ.out]; exact decide_eq_false (fun h => hk h.2)
              subst e9
              clear HBZ hne
              go_wp2_with (fail)
              go_meet
              case rel => exact ⟨rfl, rfl⟩
        · have hne : (⟨px, py, pz⟩ : Pt) ≠ Pt.O := fun h => hx (congrArg Pt.x h)
          have hb : (px == 0) = false := beq_eq_false_iff_ne.2 hx
          by_cases hk : K.length < 128
          · have hk2 : ((K.length : Nat) : Int) < 128 := by omega
            have e9 : bz = true := by rw [HBZ.out]; exact decide_eq_true ⟨hne, hk⟩
            subst e9
            clear HBZ hne
            go_wp2_with (fail)
            go_meet
            case rel => exact ⟨rfl, rfl⟩
          · have hk2 : ¬ ((K.length : Nat) : Int) < 128 := by omega
            have e9 : bz = false := by rw [HBZ.out]; exact decide_eq_false (fun h => hk h.2)
            subst e9
            clear HBZ hne
            go_wp2_with (fail)
            go_meet
            case rel => exact ⟨rfl, rfl⟩
      case rest =>
        obtain ⟨rfl, hwc⟩ := hcut
        obtain rfl : wr = wc := hwc.symm
        clear hwc
        cases bz with
        | true =>
          obtain ⟨hne, hk⟩ := of_decide_eq_true HBZ.out.symm
          have HK2 : Hid (keepD (M.take (i + 1)) = K ++ [⟨px, py, pz⟩]) := hadd hne hk
          have hsz := HB9.out.size
          have hk3 := HKL.out
          clear hno hadd hful hne hk HBZ
          go_wp2_with (at_builtin; refine wpList_append_own_at _ rfl _ _ 24 rfl V2.heap.size 23 i0 _ 3 24 Tryz.underlying24 HI.out.1 HI.out.2.1 HI.out.2.2.1 HI.out.2.2.2 rfl (by decide) _ _ _ rfl (own_below HR.out (n_after wr _)) ⟨wr.heap.size, 0, none⟩ 1 1 [.int .i64 px, .int .i64 py, .int .i64 pz] rfl rfl (news_at (heap_alloc_new wr _)) (by intro u hu; simp at hu; rcases hu with rfl | rfl | rfl <;> rfl) (by unfold maxLen; omega) (by omega) (by simp; omega) ?_; intro u9 V6 r8 g8 _ s8; have hb8 : Below V2.heap.size V2 V6 := (b_step HB9.out (n_after wr _)).grown g8 (by simp; omega) (fun k e => (World.ownsRow.lt HR.out k e).1); have HB8 : Hid _ := hb8; have HR8 : Hid (World.ownsRow _ _ _ _ _ _ _) := r8; obtain ⟨gg8, kk8, rfl⟩ := ownsRow_succ r8; clear r8 g8 s8 hb8)
          have hlk : (K ++ [(⟨px, py, pz⟩ : Pt)]).length = K.length + 1 := by simp
          have HR9 : Hid (V6.ownsRow V2.heap.size 23 3 (.slice (some ⟨gg8, 0, none⟩) (K ++ [(⟨px, py, pz⟩ : Pt)]).length kk8) (K ++ [(⟨px, py, pz⟩ : Pt)]).length (fl3 (K ++ [(⟨px, py, pz⟩ : Pt)]))) := by rw [hlk, fl3_append]; exact HR8.out
          clear hsz hk3 HR8
          go_roundg (M.length - (i + 1))
          case measure => have := HG.out; omega
          case rel => exact ⟨i + 1, K ++ [⟨px, py, pz⟩], some ⟨gg8, 0, none⟩, kk8, by rw [hlk], by go_num, by omega, rfl, (by show _ = _; exact HK2.out.symm), HR9, HB8⟩
        | false =>
          have HK2 : Hid (keepD (M.take (i + 1)) = K) := by
            show _ = _
            by_cases hz : (⟨px, py, pz⟩ : Pt) = Pt.O
            · exact hno hz
            · by_cases hk : K.length < 128
              · have h9 := HBZ.out
                rw [decide_eq_true ⟨hz, hk⟩] at h9
                cases h9
              · exact hful hz hk
          clear hno hadd hful HBZ HKL
          go_wp2_with (fail)
          go_roundg (M.length - (i + 1))
          case measure => have := HG.out; omega
          case rel => exact ⟨i + 1, K, oo, cc, rfl, by go_num, by omega, rfl, (by show _ = _; exact HK2.out.symm), HR, HB9⟩
    · obtain rfl : i = M.length := by omega
      have hk : K = keepD M := by rw [HK.out, List.take_length]
      have HKM : Hid _ := hk
      clear hk
      go_wp2_with (fail)
      refine bodyPost_ret (v := .slice oo K.length cc) (by simp [results, Tryz.results76, go_sem]) rfl ⟨_, rfl, ?_⟩
      rw [HMM.out, ← HKM.out]
      exact ⟨World.ownsRow.mono HR.out HB2.out.size, b_step HB2.out HB9.out⟩
end Go.Proofs.YtbhdfjoagajipaaGreat
