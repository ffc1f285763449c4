/- What the walk of the document's own Candidates keeps: boxes, a list that grows, a list that stands; its regions that append a point. -/
import Derived.Test.YtccdgpijjgeedaaSNRight25
import Derived.Test.YtccdgpijjgeedaaSNRight2
import Derived.Test.YtccdgpijjgeedaaSNRight3
import Derived.Test.YtccdgpijjgeedaaSNRight6
set_option linter.unusedVariables false
namespace Go.Proofs.Ytccdgpijjgeedaa
section
open Go.RowKit Go.Shelf
structure CK (w0 X : World) (n0 : Nat) (bs : List (Nat × List Value)) (u : Value) (M : List Pt) (v : Value) (N : List Pt) : Prop where
 below : Below w0.heap.size w0 X
 fix : ∀ p ∈ bs, p.1 < X.heap.size /\ u.ownBlock ≠ some p.1 /\ v.ownBlock ≠ some p.1 /\ Cel X p.1 p.2
 hn : w0.heap.size <= n0
 hx : n0 <= X.heap.size
 own : X.ownsRow n0 26 3 u M.length (fl3 M)
 two : X.ownsRow n0 26 3 v N.length (fl3 N)
 ap : ∀ k, v.ownBlock = some k -> u.ownBlock ≠ some k
theorem grewOf {w W : World} {u u' : Value} (hg : w.grownBy W u.ownBlock) (hs : u'.ownBlock = u.ownBlock \/ u'.ownBlock = some w.heap.size) : Grew w W u u' :=
 ⟨hg, by rcases hs with e | e; exact Or.inl e; exact Or.inr ⟨_, e, Nat.le_refl _⟩⟩
section
variable {w0 X Y : World} {n0 : Nat} {bs : List (Nat × List Value)} {u u' v : Value} {M M' N : List Pt}
theorem CK.step (h : CK w0 X n0 bs u M v N) (hb : Below X.heap.size X Y) : CK w0 Y n0 bs u M v N :=
 ⟨b_step h.below hb, fun p hp => ⟨Nat.lt_of_lt_of_le (h.fix p hp).1 hb.size, (h.fix p hp).2.1, (h.fix p hp).2.2.1, (h.fix p hp).2.2.2.step hb⟩, h.hn, Nat.le_trans h.hx hb.size, own_below h.own hb, own_below h.two hb, h.ap⟩
theorem CK.swap (h : CK w0 X n0 bs u M v N) : CK w0 X n0 bs v N u M := ⟨h.below, fun p hp => ⟨(h.fix p hp).1, (h.fix p hp).2.2.1, (h.fix p hp).2.1, (h.fix p hp).2.2.2⟩, h.hn, h.hx, h.two, h.own, fun k e e' => h.ap k e' e⟩
theorem CK.alone (h : CK w0 X n0 bs u M v N) : CK w0 X n0 bs u M (.slice none 0 0) [] := ⟨h.below, fun p hp => ⟨(h.fix p hp).1, (h.fix p hp).2.1, (fun e => by cases e), (h.fix p hp).2.2.2⟩, h.hn, h.hx, h.own, World.ownsRow_nil _ _ _ _, fun k e => by cases e⟩
theorem CK.less {x : Nat × List Value} (h : CK w0 X n0 (x :: bs) u M v N) : CK w0 X n0 bs u M v N := ⟨h.below, fun p hp => h.fix p (List.mem_cons_of_mem _ hp), h.hn, h.hx, h.own, h.two, h.ap⟩
theorem CK.add {b : Nat} {vs : List Value} (h : CK w0 X n0 bs u M v N) (hb : Below X.heap.size X Y) (hn : X.heap.size <= b) (hl : b < Y.heap.size) (hc : Cel Y b vs) : CK w0 Y n0 ((b, vs) :: bs) u M v N := by
 have h2 := h.step hb
 refine ⟨h2.below, fun p hp => ?_, h2.hn, h2.hx, h2.own, h2.two, h2.ap⟩
 rcases List.mem_cons.1 hp with rfl | hp
 ·exact ⟨hl, fun e => by have := (h.own.lt _ e).2; omega, fun e => by have := (h.two.lt _ e).2; omega, hc⟩
 ·exact h2.fix p hp
theorem CK.grew (h : CK w0 X n0 bs u M v N) (hr : Y.ownsRow n0 26 3 u' M'.length (fl3 M')) (hg : Grew X Y u u') : CK w0 Y n0 bs u' M' v N := by
 obtain ⟨t1, t2⟩ := hg.beside h.two h.ap
 refine ⟨hg.on h.below (own_le h.own h.hn) h.below.size, fun p hp => ?_, h.hn, Nat.le_trans h.hx hg.grown.size, hr, t1, t2⟩
 obtain ⟨p1, p2, p3, p4⟩ := h.fix p hp
 refine ⟨Nat.lt_of_lt_of_le p1 hg.grown.size, fun e => ?_, p3, fun i x e => ?_⟩
 ·rcases hg.same with s | ⟨j, s, hj⟩
  ·rw [s] at e; exact p2 e
  ·rw [s] at e; cases e; omega
 ·have hk : Y.heap[p.1]? = X.heap[p.1]? := hg.grown.block p.1 p1 (fun e => p2 e.symm)
  exact (World.cell?_of_block (w := X) (a := ⟨p.1, i, none⟩) hk).trans (p4 i x e)
theorem CK.app (p : Pt) (h : CK w0 X n0 bs u M v N) (hr : Y.ownsRow n0 26 3 u' (M.length + 1) (fl3 M ++ [.int .i64 p.x, .int .i64 p.y, .int .i64 p.z])) (hg : Grew X Y u u') : CK w0 Y n0 bs u' (M ++ [p]) v N := by
 refine h.grew ?_ hg
 rw [fl3_append, List.length_append]; exact hr
theorem CK.at (h : CK w0 X n0 bs u M v N) {c : Nat} {vs : List Value} (hm : (c, vs) ∈ bs) : Cel X c vs := (h.fix _ hm).2.2.2
theorem CK.start (w0 : World) (l1 l2 : List Value) (t1 t2 : TypeId) :
  CK w0 ((w0.alloc (.cells l1.toArray t1)).alloc (.cells l2.toArray t2)) (w0.heap.size + 2) [(w0.heap.size, l1), (w0.heap.size + 1, l2)] (.slice none 0 0) [] (.slice none 0 0) [] := by
 have c9 := Cel.two w0 l1 l2 t1 t2
 refine ⟨b_step (n_after _ _) (n_after _ _), fun p hp => ?_, by omega, by simp, World.ownsRow_nil _ _ _ _, World.ownsRow_nil _ _ _ _, fun k e => by cases e⟩
 simp only [List.mem_cons, List.not_mem_nil, or_false] at hp
 rcases hp with rfl | rfl
 ·exact ⟨by simp; omega, (fun e => by cases e), (fun e => by cases e), c9.1⟩
 ·exact ⟨by simp, (fun e => by cases e), (fun e => by cases e), c9.2⟩
end
theorem mayC_parts {c : Cr} (h : mayC c = true) : c.P.length <= 32 /\ c.A.length <= 128 /\ c.E.length <= 128 /\ (∀ p ∈ c.P, p.inB 16777216 = true) /\ (∀ p ∈ c.E, p.inB 1048576 = true) := by
 obtain ⟨h1, h2, h3, h4⟩ := may_facts h
 unfold mayC at h
 simp only [Bool.and_eq_true, decide_eq_true_eq] at h
 exact ⟨by omega, by omega, by omega, h2, h3⟩
theorem cross_next (E F : List Pt) {i : Nat} (h : i < E.length) : crossL (E.take (i + 1)) F = crossL (E.take i) F ++ F.map (fun f => (pt E i).cross f) := by
 unfold crossL
 rw [take_pt h, List.flatMap_append]
 simp
theorem flat_take (f : Pt -> List Pt) (L : List Pt) {i : Nat} (h : i < L.length) : (L.take (i + 1)).flatMap f = (L.take i).flatMap f ++ f (pt L i) := by
 rw [take_pt h, List.flatMap_append]
 simp
theorem map_take (f : Pt -> Pt) (L : List Pt) {i : Nat} (h : i < L.length) : (L.take (i + 1)).map f = (L.take i).map f ++ [f (pt L i)] := by
 rw [take_pt h, List.map_append]
 rfl
theorem both_no (L : List Pt) {i : Nat} (h : i < L.length) (hz : (pt L i).lng = Pt.O) : both (L.take (i + 1)) = both (L.take i) := by
 rw [take_pt h, both_app]
 simp [both, hz]
theorem both_yes (L : List Pt) {i : Nat} (h : i < L.length) (hz : (pt L i).lng ≠ Pt.O) : both (L.take (i + 1)) = both (L.take i) ++ [(pt L i).lng, (pt L i).lng.neg] := by
 rw [take_pt h, both_app]
 simp [both, hz]
theorem news_at6 {w : World} {vb : Nat} {x y z x' y' z' : Value} {t : TypeId} (h : w.heap[vb]? = some (.cells #[x, y, z, x', y', z'] t (0, 0))) : ∀ j u, [x, y, z, x', y', z'][j]? = some u -> w.cell? ((⟨vb, 0, none⟩ : Addr).add j) = some u := by
 intro j u hj
 have ad : (⟨vb, 0, none⟩ : Addr).add j = ⟨vb, j, none⟩ := by unfold Addr.add; split <;> simp_all
 rw [ad]
 match j, hj with
 | 0, hj => simp at hj; subst hj; simp [World.cell?, h]
 | 1, hj => simp at hj; subst hj; simp [World.cell?, h]
 | 2, hj => simp at hj; subst hj; simp [World.cell?, h]
 | 3, hj => simp at hj; subst hj; simp [World.cell?, h]
 | 4, hj => simp at hj; subst hj; simp [World.cell?, h]
 | 5, hj => simp at hj; subst hj; simp [World.cell?, h]
def A10 (p q z : Nat) (W7 : World) (B : Nat) (u : Value) (n : Nat) (xs news : List Value) (γ : Nat -> Value) (L : Nat -> Bool) (w : World) : Prop :=
 ((L q = false /\ Below W7.heap.size W7 w /\ (L p = true -> ∃ g, γ p = .slice (some ⟨g, 0, none⟩) 1 1 /\ w.heap[g]? = some (.cells news.toArray 26 (0, 0)))) \/
 (L q = true /\ w.ownsRow B 26 3 (γ q) (n + 1) (xs ++ news) /\ Grew W7 w u (γ q))) /\ (L z = true -> γ z = γ q)
section
variable {p q z : Nat} {W7 : World} {B : Nat} {u : Value} {n : Nat} {xs news : List Value} {γ : Nat -> Value} {L : Nat -> Bool} {w : World}
theorem A10.start (hp : L p = false) (hq : L q = false) (hz : L z = false) (hb : Below W7.heap.size W7 w) : A10 p q z W7 B u n xs news γ L w := ⟨Or.inl ⟨hq, hb, fun e => by rw [hp] at e; cases e⟩, fun e => by rw [hz] at e; cases e⟩
theorem A10.other (h : A10 p q z W7 B u n xs news γ L w) {i : Nat} (v : Value) (hp : p ≠ i) (hq : q ≠ i) (hz : z ≠ i) : A10 p q z W7 B u n xs news (RV.upd γ i v) (more L i) w := by
 unfold A10
 rw [RV.mn hp, RV.mn hq, RV.mn hz, RV.upd_ne _ _ hp, RV.upd_ne _ _ hq, RV.upd_ne _ _ hz]
 exact h
theorem A10.early (h : A10 p q z W7 B u n xs news γ L w) (hq : L q = false) : Below W7.heap.size W7 w /\ (L p = true -> ∃ g, γ p = .slice (some ⟨g, 0, none⟩) 1 1 /\ w.heap[g]? = some (.cells news.toArray 26 (0, 0))) := by
 rcases h.1 with h | h
 ·exact h.2
 ·rw [hq] at h; cases h.1
theorem A10.call {w' : World} (h : A10 p q z W7 B u n xs news γ L w) (hq : L q = false) (hb : Below w.heap.size w w') {i : Nat} (v : Value) (hpi : p ≠ i) (hqi : q ≠ i) (hzi : z ≠ i) : A10 p q z W7 B u n xs news (RV.upd γ i v) (more L i) w' := by
 obtain ⟨h1, h2⟩ := h.early hq
 refine ⟨Or.inl ⟨by rw [RV.mn hqi]; exact hq, b_step h1 hb, fun e => ?_⟩, fun e => ?_⟩
 ·rw [RV.mn hpi] at e
  rw [RV.upd_ne _ _ hpi]
  obtain ⟨g, e1, e2⟩ := h2 e
  exact ⟨g, e1, (hb.block g (Array.getElem?_eq_some_iff.1 e2).1).trans e2⟩
 ·rw [RV.mn hzi] at e
  rw [RV.upd_ne _ _ hzi, RV.upd_ne _ _ hqi]
  exact h.2 e
theorem A10.lay (h : A10 p q z W7 B u n xs news γ L w) (hq : L q = false) (npq : q ≠ p) (npz : z ≠ p) : A10 p q z W7 B u n xs news (RV.upd γ p (.slice (some ⟨w.heap.size, 0, none⟩) 1 1)) (more L p) (w.alloc (.cells news.toArray 26)) :=
 ⟨Or.inl ⟨by rw [RV.mn npq]; exact hq, b_step (h.early hq).1 (n_after _ _), fun _ => ⟨w.heap.size, by rw [RV.upd_self], heap_alloc_new _ _⟩⟩, fun e => by rw [RV.mn npz] at e; rw [RV.upd_ne _ _ npz, RV.upd_ne _ _ npq]; exact h.2 e⟩
theorem A10.app {w' : World} {v' : Value} (hz : L z = false) (nqz : z ≠ q) (hr : w'.ownsRow B 26 3 v' (n + 1) (xs ++ news)) (hg : Grew W7 w' u v') : A10 p q z W7 B u n xs news (RV.upd γ q v') (more L q) w' :=
 ⟨Or.inr ⟨RV.more_self, by rw [RV.upd_self]; exact hr, by rw [RV.upd_self]; exact hg⟩, fun e => by rw [RV.mn nqz, hz] at e; cases e⟩
theorem A10.set (h : A10 p q z W7 B u n xs news γ L w) (nqz : q ≠ z) (npz : p ≠ z) : A10 p q z W7 B u n xs news (RV.upd γ z (γ q)) (more L z) w := by
 refine ⟨?_, fun _ => by rw [RV.upd_self, RV.upd_ne _ _ nqz]⟩
 rw [RV.mn nqz, RV.mn npz, RV.upd_ne _ _ nqz, RV.upd_ne _ _ npz]
 exact h.1
theorem A10.done (h : A10 p q z W7 B u n xs news γ L w) (hq : L q = true) (hz : L z = true) : γ z = γ q /\ w.ownsRow B 26 3 (γ q) (n + 1) (xs ++ news) /\ Grew W7 w u (γ q) := by
 rcases h.1 with h9 | h9
 ·rw [hq] at h9; cases h9.1
 ·exact ⟨h.2 hz, h9.2⟩
end
set_option maxHeartbeats 2000000 in
theorem rcross9_any (p q : Pt) (w : World) (hp : p.inB 536870912 = true) (hq : q.inB 536870912 = true) :
  Calls Try.prog 53 #[p.v, q.v] w fun e W => e = .returned (p.cross q).v /\ Below w.heap.size w W := by
 obtain ⟨x, y, z⟩ := p
 obtain ⟨x', y', z'⟩ := q
 rw [Pt.inB_iff] at hp hq
 unfold Pt.v Pt.cross
 dsimp only at *
 have h1 := prod_in hp.2.1 hq.2.2 (by decide)
 have h2 := prod_in hp.2.2 hq.2.1 (by decide)
 have h3 := prod_in hp.2.2 hq.1 (by decide)
 have h4 := prod_in hp.1 hq.2.2 (by decide)
 have h5 := prod_in hp.1 hq.2.1 (by decide)
 have h6 := prod_in hp.2.1 hq.1 (by decide)
 clear hp hq
 go_enter Try.func53, Try.ntmps53
 go_wp2
 refine bodyPost_ret (v := .agg #[.int .i64 (y * z' - z * y'), .int .i64 (z * x' - x * z'), .int .i64 (x * y' - y * x')]) ?_ rfl ⟨rfl, (((Below.refl _ w).alloc (Nat.le_refl _) _).alloc (by simp) _).alloc (by simp; omega) _⟩
 simp [results, Try.results53, go_sem]
end
end Go.Proofs.Ytccdgpijjgeedaa
