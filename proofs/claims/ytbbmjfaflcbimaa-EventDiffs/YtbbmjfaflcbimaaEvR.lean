/- Sets that are made one another by what a difference tells: two sets and the document's own, side by side; the mathematics. -/
import Derived.Test.YtbbmjfaflcbimaaEvL
import Derived.Test.YtbbmjfaflcbimaaEvO
import Derived.Test.YtbbmjfaflcbimaaPairV
namespace Go.Proofs.Ytbbmjfaflcbimaa
open Go.ChangeShapes Go.WideShapes Go.Deep Go.Joins Go.RowKit Go.Shelf
set_option linter.unusedVariables false

theorem mem_minus {A B : List Pr} {q : Pr} : q ∈ minus A (some B) ↔ q ∈ A ∧ q ∉ B := by simp [minus, List.mem_filter]
theorem minus_sorted {A B : List Pr} (h : A.Pairwise Pr.Lt) : (minus A (some B)).Pairwise Pr.Lt := h.filter _
theorem nodup_take {X : List Pr} (h : X.Pairwise Pr.Lt) {j : Nat} (hj : j < X.length) : pt X j ∉ X.take j := by
  intro hm
  obtain ⟨i, hi, e⟩ := List.mem_iff_getElem.1 hm
  rw [List.length_take] at hi
  have hij : i < j := by omega
  have := pt_lt h hij hj
  rw [List.getElem_take] at e
  have e2 : pt X i = X[i]'(by omega) := by unfold pt; rw [List.getElem?_eq_getElem (by omega)]; rfl
  rw [e2, e] at this
  exact Lt.irrefl _ this
theorem take_ptz {X : List Pr} {j : Nat} (hj : j < X.length) : X.take (j + 1) = X.take j ++ [pt X j] := by
  rw [List.take_add_one]
  unfold pt
  rw [List.getElem?_eq_getElem hj]
  rfl
theorem mem_putR {n : Nat} {L : List Pr} {p q : Pr} (hl : L.length < n) : q ∈ putL n L p ↔ q ∈ L ∨ (q = p ∧ p.a < p.b) := by
  unfold putL
  by_cases h1 : p.a < p.b
  · by_cases h2 : p ∈ L
    · rw [if_neg (fun h => h.2.1 h2)]
      exact ⟨Or.inl, fun h => h.elim id (fun h => h.1 ▸ h2)⟩
    · rw [if_pos ⟨h1, h2, hl⟩, mem_ins]
      exact ⟨fun h => h.elim (fun e => Or.inr ⟨e, h1⟩) Or.inl, fun h => h.elim Or.inr (fun e => Or.inl e.1)⟩
  · rw [if_neg (fun h => h1 h.1)]
    exact ⟨Or.inl, fun h => h.elim id (fun h => absurd h.2 h1)⟩
theorem putR_len (n : Nat) (L : List Pr) (p : Pr) : (putL n L p).length ≤ L.length + 1 := by
  unfold putL
  split
  · rw [ins_length]; omega
  · omega
/-- How far the set has come. -/
structure SJ (A B S : List Pr) (j : Nat) : Prop where
  len : S.length ≤ A.length + j
  mem : ∀ q, q ∈ S ↔ ((q ∈ A ∨ q ∈ (minus B (some A)).take j) ∧ q ∉ (minus A (some B)).take (j - (minus B (some A)).length))
theorem SJ.start (A B : List Pr) : SJ A B A 0 := ⟨by omega, fun q => by simp⟩
theorem SJ.new {A B S : List Pr} {j : Nat} (h : SJ A B S j) (hB : B.Pairwise Pr.Lt) (hj : j < (minus B (some A)).length) : pt (minus B (some A)) j ∉ S := fun hm => by
  have hp := pt_mem hj
  rcases ((h.mem _).1 hm).1 with h1 | h1
  · exact (mem_minus.1 hp).2 h1
  · exact nodup_take (minus_sorted hB) hj h1
theorem SJ.put {A B S : List Pr} {j : Nat} (h : SJ A B S j) (hB : B.Pairwise Pr.Lt) (hok : ∀ p ∈ B, p.a < p.b) (hj : j < (minus B (some A)).length) (hl : S.length < 512) : SJ A B (putL 512 S (pt (minus B (some A)) j)) (j + 1) := by
  have hp := pt_mem hj
  refine ⟨by have := putR_len 512 S (pt (minus B (some A)) j); have := h.len; omega, fun q => ?_⟩
  rw [mem_putR hl, h.mem q, take_ptz hj, show j - (minus B (some A)).length = 0 by omega, show j + 1 - (minus B (some A)).length = 0 by omega]
  simp only [List.take_zero, List.not_mem_nil, not_false_eq_true, and_true, List.mem_append, List.mem_singleton]
  constructor
  · rintro ((h1 | h1) | ⟨h1, _⟩)
    · exact Or.inl h1
    · exact Or.inr (Or.inl h1)
    · exact Or.inr (Or.inr h1)
  · rintro (h1 | h1 | h1)
    · exact Or.inl (Or.inl h1)
    · exact Or.inl (Or.inr h1)
    · exact Or.inr ⟨h1, hok _ (mem_minus.1 hp).1⟩
theorem SJ.has {A B S : List Pr} {j i : Nat} (h : SJ A B S j) (hA : A.Pairwise Pr.Lt) (hi : i < (minus A (some B)).length) (hj : j = (minus B (some A)).length + i) : pt (minus A (some B)) i ∈ S := by
  have hp := pt_mem hi
  rw [h.mem]
  refine ⟨Or.inl (mem_minus.1 hp).1, ?_⟩
  rw [hj, Nat.add_sub_cancel_left]
  exact nodup_take (minus_sorted hA) hi
theorem SJ.drop {A B S : List Pr} {j i : Nat} (h : SJ A B S j) (hi : i < (minus A (some B)).length) (hj : j = (minus B (some A)).length + i) : SJ A B (S.filter (fun q => decide (q ≠ pt (minus A (some B)) i))) (j + 1) := by
  refine ⟨by have := List.length_filter_le (fun q => decide (q ≠ pt (minus A (some B)) i)) S; have := h.len; omega, fun q => ?_⟩
  rw [List.mem_filter, h.mem q]
  subst hj
  rw [show (minus B (some A)).length + i + 1 - (minus B (some A)).length = i + 1 by omega, Nat.add_sub_cancel_left, take_ptz hi, List.take_of_length_le (i := (minus B (some A)).length + i) (by omega), List.take_of_length_le (i := (minus B (some A)).length + i + 1) (by omega)]
  simp only [List.mem_append, List.mem_singleton, decide_eq_true_eq, not_or, ne_eq]
  constructor
  · rintro ⟨⟨h1, h2⟩, h3⟩
    exact ⟨h1, h2, h3⟩
  · rintro ⟨h1, h2, h3⟩
    exact ⟨⟨h1, h2⟩, h3⟩
theorem SJ.done {A B S : List Pr} {j : Nat} (h : SJ A B S j) (hj : j = (minus B (some A)).length + (minus A (some B)).length) : minus S (some B) = [] ∧ minus B (some S) = [] := by
  have key : ∀ q, q ∈ S ↔ q ∈ B := fun q => by
    rw [h.mem q]
    subst hj
    rw [List.take_of_length_le (i := (minus B (some A)).length + (minus A (some B)).length) (by omega), Nat.add_sub_cancel_left, List.take_length, mem_minus, mem_minus]
    constructor
    · rintro ⟨h1 | h1, h2⟩
      · by_cases hq : q ∈ B
        · exact hq
        · exact absurd ⟨h1, hq⟩ h2
      · exact h1.1
    · intro hq
      refine ⟨?_, fun h2 => h2.2 hq⟩
      by_cases hA : q ∈ A
      · exact Or.inl hA
      · exact Or.inr ⟨hq, hA⟩
  constructor
  · exact List.eq_nil_iff_forall_not_mem.2 (fun q hq => by rw [mem_minus] at hq; exact hq.2 ((key q).1 hq.1))
  · exact List.eq_nil_iff_forall_not_mem.2 (fun q hq => by rw [mem_minus] at hq; exact hq.2 ((key q).2 hq.1))
theorem putN_yes {S : List Pr} {p : Pr} (h1 : p.a < p.b) (h2 : p ∉ S) (h3 : S.length < 512) : putN 512 S p = true := decide_eq_true ⟨h1, h2, h3⟩
section
variable {w W V : World} {ss tt rr qq : Nat} {vs vt vr vq : Value} {n m : Nat} {A A' B B' : List Pr}
theorem Quad.turnS {vs' : Value} {A2 : List Pr} (g : Quad w W ss tt rr qq vs vt vr vq n m A A' B B') (hs : IsSet V ss w.heap.size vs' n A2) (hc : Ch W V ss vs.ownBlock) (hv : vs'.ownBlock = vs.ownBlock ∨ vs'.ownBlock = none ∨ ∃ g, vs'.ownBlock = some g ∧ W.heap.size ≤ g) : Quad w V ss tt rr qq vs' vt vr vq n m A2 A' B B' := by
  obtain ⟨b1, b2, b3, b4⟩ := g.st.conds (row := vs.ownBlock) (Or.inl rfl)
  obtain ⟨c1, c2, c3, c4⟩ := g.sr.conds (row := vs.ownBlock) (Or.inl rfl)
  obtain ⟨d1, d2, d3, d4⟩ := g.sq.conds (row := vs.ownBlock) (Or.inl rfl)
  exact ⟨hs, g.t.ch hc b1 b2 b3 b4, g.r.ch hc c1 c2 c3 c4, g.q.ch hc d1 d2 d3 d4, hc.below g.below g.below.size g.hs (fun k e => (g.s.own.lt k e).1), g.hs, g.ht, g.hr, g.hq, g.st.turn g.t.foot hv, g.sr.turn g.r.foot hv, g.sq.turn g.q.foot hv, g.tr, g.tq, g.rq⟩
theorem Quad.turnR {vr' : Value} {A2 : List Pr} (g : Quad w W ss tt rr qq vs vt vr vq n m A A' B B') (hs : IsRef V rr w.heap.size vr' n A2) (hc : Ch W V rr none) (hv : vr'.ownBlock = vr.ownBlock ∨ vr'.ownBlock = none ∨ ∃ g, vr'.ownBlock = some g ∧ W.heap.size ≤ g) : Quad w V ss tt rr qq vs vt vr' vq n m A A2 B B' := by
  obtain ⟨b1, b2, b3, b4⟩ := g.sr.symm.conds (row := none) (Or.inr rfl)
  obtain ⟨c1, c2, c3, c4⟩ := g.tr.symm.conds (row := none) (Or.inr rfl)
  obtain ⟨d1, d2, d3, d4⟩ := g.rq.conds (row := none) (Or.inr rfl)
  exact ⟨g.s.ch hc b1 b2 b3 b4, g.t.ch hc c1 c2 c3 c4, hs, g.q.ch hc d1 d2 d3 d4, hc.below g.below g.below.size g.hr (fun k e => by cases e), g.hs, g.ht, g.hr, g.hq, g.st, (g.sr.symm.turn g.s.foot hv).symm, g.sq, (g.tr.symm.turn g.t.foot hv).symm, g.tq, g.rq.turn g.q.foot hv⟩
/-- The rows of the four may be anywhere. -/
def QD (w W : World) (ss tt rr qq : Nat) (A A' B B' : List Pr) : Prop := ∃ vs vt vr vq, Quad w W ss tt rr qq vs vt vr vq 512 512 A A' B B'
theorem QD.step (h : QD w W ss tt rr qq A A' B B') (hb : Below W.heap.size W V) : QD w V ss tt rr qq A A' B B' := by
  obtain ⟨vs, vt, vr, vq, h⟩ := h
  exact ⟨vs, vt, vr, vq, h.step hb⟩
theorem QD.swap (h : QD w W ss tt rr qq A A' B B') : QD w W tt ss qq rr B B' A A' := by
  obtain ⟨vs, vt, vr, vq, h⟩ := h
  exact ⟨vt, vs, vq, vr, h.swap⟩
theorem QD.puts (h : QD w W ss tt rr qq A A' B B') (p : Pr) : Calls Try.prog 22 #[.pointer (some ⟨ss, 0, none⟩), .agg #[.int .i64 p.a, .int .i64 p.b]] W fun e V => e = .returned (.tuple #[.bool (putN 512 A p), .int .i64 (putE 512 A p)]) ∧ QD w V ss tt rr qq (putL 512 A p) A' B B' := by
  obtain ⟨vs, vt, vr, vq, h⟩ := h
  refine Calls.mono (put_any ss w.heap.size vs 512 A p W h.s h.below.size) ?_
  rintro e V ⟨rfl, v', a, b, c⟩
  exact ⟨rfl, v', vt, vr, vq, h.turnS a b (c.imp id Or.inr)⟩
theorem QD.putr (h : QD w W ss tt rr qq A A' B B') (p : Pr) : Calls Try.prog 23 #[.pointer (some ⟨rr, 0, none⟩), .agg #[.int .i64 p.a, .int .i64 p.b]] W fun e V => e = .returned (.tuple #[.bool (putN 512 A' p), .int .i64 (putE 512 A' p)]) ∧ QD w V ss tt rr qq A (putL 512 A' p) B B' := by
  obtain ⟨vs, vt, vr, vq, h⟩ := h
  refine Calls.mono (rput_any rr w.heap.size vr 512 A' p W h.r h.below.size) ?_
  rintro e V ⟨rfl, v', a, b, c⟩
  exact ⟨rfl, vs, vt, v', vq, h.turnR a b c⟩
theorem QD.putt (h : QD w W ss tt rr qq A A' B B') (p : Pr) : Calls Try.prog 22 #[.pointer (some ⟨tt, 0, none⟩), .agg #[.int .i64 p.a, .int .i64 p.b]] W fun e V => e = .returned (.tuple #[.bool (putN 512 B p), .int .i64 (putE 512 B p)]) ∧ QD w V ss tt rr qq A A' (putL 512 B p) B' :=
  Calls.mono (h.swap.puts p) (by rintro e V ⟨rfl, h⟩; exact ⟨rfl, h.swap⟩)
theorem QD.putq (h : QD w W ss tt rr qq A A' B B') (p : Pr) : Calls Try.prog 23 #[.pointer (some ⟨qq, 0, none⟩), .agg #[.int .i64 p.a, .int .i64 p.b]] W fun e V => e = .returned (.tuple #[.bool (putN 512 B' p), .int .i64 (putE 512 B' p)]) ∧ QD w V ss tt rr qq A A' B (putL 512 B' p) :=
  Calls.mono (h.swap.putr p) (by rintro e V ⟨rfl, h⟩; exact ⟨rfl, h.swap⟩)
theorem QD.below (h : QD w W ss tt rr qq A A' B B') : Below w.heap.size w W := by
  obtain ⟨vs, vt, vr, vq, h⟩ := h
  exact h.below
theorem QD.sorted (h : QD w W ss tt rr qq A A' B B') : A.Pairwise Pr.Lt ∧ B.Pairwise Pr.Lt := by
  obtain ⟨vs, vt, vr, vq, h⟩ := h
  exact ⟨h.s.sorted, h.t.sorted⟩
theorem QD.lens (h : QD w W ss tt rr qq A A' B B') : A.length ≤ 512 ∧ B.length ≤ 512 := by
  obtain ⟨vs, vt, vr, vq, h⟩ := h
  exact ⟨h.s.len, h.t.len⟩
theorem QD.bys (h : QD w W ss tt rr qq A A' B B') : BY W (.pointer (some ⟨ss, 0, none⟩)) (.pointer (some ⟨tt, 0, none⟩)) (minus A (some B)) ∧ BY W (.pointer (some ⟨tt, 0, none⟩)) (.pointer (some ⟨ss, 0, none⟩)) (minus B (some A)) ∧ BY W (.pointer (some ⟨ss, 0, none⟩)) (.pointer none) A ∧ BY W (.pointer (some ⟨tt, 0, none⟩)) (.pointer none) B := by
  obtain ⟨vs, vt, vr, vq, h⟩ := h
  exact ⟨by_some ss _ vs 512 A tt _ vt 512 B W h.s h.t, by_some tt _ vt 512 B ss _ vs 512 A W h.t h.s, by_bare ss _ vs 512 A W h.s, by_bare tt _ vt 512 B W h.t⟩
theorem QD.rbys (h : QD w W ss tt rr qq A A' B B') : RBY W (.pointer (some ⟨rr, 0, none⟩)) (.pointer (some ⟨qq, 0, none⟩)) (minus A' (some B')) ∧ RBY W (.pointer (some ⟨qq, 0, none⟩)) (.pointer (some ⟨rr, 0, none⟩)) (minus B' (some A')) ∧ RBY W (.pointer (some ⟨rr, 0, none⟩)) (.pointer none) A' ∧ RBY W (.pointer (some ⟨qq, 0, none⟩)) (.pointer none) B' := by
  obtain ⟨vs, vt, vr, vq, h⟩ := h
  exact ⟨fun V hb => rbeyond_some rr _ vr 512 A' qq _ vq 512 B' V (h.r.below hb) (h.q.below hb), fun V hb => rbeyond_some qq _ vq 512 B' rr _ vr 512 A' V (h.q.below hb) (h.r.below hb), fun V hb => rbeyond_nil rr _ vr 512 A' V (h.r.below hb), fun V hb => rbeyond_nil qq _ vq 512 B' V (h.q.below hb)⟩
theorem QD.beyond (h : QD w W ss tt rr qq A A' B B') : Calls Try.prog 27 #[.pointer (some ⟨ss, 0, none⟩), .pointer (some ⟨tt, 0, none⟩)] W fun e V => ∃ u, e = .returned u ∧ (∃ o c, u = .slice o (minus A (some B)).length c) ∧ QD w V ss tt rr qq A A' B B' := by
  obtain ⟨vs, vt, vr, vq, h⟩ := h
  refine Calls.mono (beyond_some ss _ vs 512 A tt _ vt 512 B W h.s h.t) ?_
  rintro e V ⟨u, rfl, hu, hb⟩
  exact ⟨u, rfl, row_form hu, vs, vt, vr, vq, h.step hb⟩
/-- .. and a list of one's own that lies apart from the first set. -/
structure FD (w W : World) (ss tt rr qq : Nat) (A A' B B' : List Pr) (u : Value) (L : List Ev) : Prop where
  ex : ∃ vs vt vr vq, Quad w W ss tt rr qq vs vt vr vq 512 512 A A' B B' ∧ ∀ k, u.ownBlock = some k → k ≠ ss ∧ vs.ownBlock ≠ some k
  own : OA W w.heap.size u L
variable {u : Value} {L : List Ev}
theorem FD.qd (h : FD w W ss tt rr qq A A' B B' u L) : QD w W ss tt rr qq A A' B B' := by
  obtain ⟨vs, vt, vr, vq, h, _⟩ := h.ex
  exact ⟨vs, vt, vr, vq, h⟩
theorem FD.step (h : FD w W ss tt rr qq A A' B B' u L) (hb : Below W.heap.size W V) : FD w V ss tt rr qq A A' B B' u L := by
  obtain ⟨vs, vt, vr, vq, g, a⟩ := h.ex
  exact ⟨⟨vs, vt, vr, vq, g.step hb, a⟩, h.own.below hb⟩
theorem FD.turn {vs vs' vt vr vq : Value} {A2 : List Pr} (g : Quad w W ss tt rr qq vs vt vr vq 512 512 A A' B B') (a : ∀ k, u.ownBlock = some k → k ≠ ss ∧ vs.ownBlock ≠ some k) (ho : OA W w.heap.size u L) (hs : IsSet V ss w.heap.size vs' 512 A2) (hc : Ch W V ss vs.ownBlock) (hv : vs'.ownBlock = vs.ownBlock ∨ vs'.ownBlock = none ∨ ∃ g, vs'.ownBlock = some g ∧ W.heap.size ≤ g) : FD w V ss tt rr qq A2 A' B B' u L := by
  refine ⟨⟨vs', vt, vr, vq, g.turnS hs hc hv, fun k e => ⟨(a k e).1, fun e' => ?_⟩⟩, ho.keep hc.size (fun k e => hc.block k (ho.lt k e).2 (a k e).1 (fun x => (a k e).2 x.symm))⟩
  have hk := (ho.lt k e).2
  rcases hv with hv | hv | ⟨j, hv, hj⟩
  · exact (a k e).2 (by rw [← hv, e'])
  · rw [hv] at e'; cases e'
  · rw [hv] at e'; injection e' with e'; omega
theorem FD.put (h : FD w W ss tt rr qq A A' B B' u L) (p : Pr) : Calls Try.prog 22 #[.pointer (some ⟨ss, 0, none⟩), .agg #[.int .i64 p.a, .int .i64 p.b]] W fun e V => e = .returned (.tuple #[.bool (putN 512 A p), .int .i64 (putE 512 A p)]) ∧ FD w V ss tt rr qq (putL 512 A p) A' B B' u L := by
  obtain ⟨vs, vt, vr, vq, g, a⟩ := h.ex
  refine Calls.mono (put_any ss w.heap.size vs 512 A p W g.s g.below.size) ?_
  rintro e V ⟨rfl, v', x, b, c⟩
  exact ⟨rfl, FD.turn g a h.own x b (c.imp id Or.inr)⟩
theorem FD.drop (h : FD w W ss tt rr qq A A' B B' u L) (p : Pr) : Calls Try.prog 26 #[.pointer (some ⟨ss, 0, none⟩), .agg #[.int .i64 p.a, .int .i64 p.b]] W fun e V => e = .returned (.bool (decide (p ∈ A))) ∧ FD w V ss tt rr qq (A.filter (fun q => decide (q ≠ p))) A' B B' u L := by
  obtain ⟨vs, vt, vr, vq, g, a⟩ := h.ex
  refine Calls.mono (drop_any ss w.heap.size vs 512 A p W g.s) ?_
  rintro e V ⟨rfl, v', x, b, c⟩
  exact ⟨rfl, FD.turn g a h.own x b (Or.inl c)⟩
/-- A list that came later than the first set. -/
theorem FD.new (h : QD w W ss tt rr qq A A' B B') (hb : Below W.heap.size W V) (ho : OA V W.heap.size u L) : FD w V ss tt rr qq A A' B B' u L := by
  obtain ⟨vs, vt, vr, vq, g⟩ := h
  refine ⟨⟨vs, vt, vr, vq, g.step hb, fun k e => ?_⟩, ho.mono g.below.size⟩
  have hk := (ho.lt k e).1
  exact ⟨by have := g.s.lt; omega, fun e' => by have := (g.s.own.lt k e').2; omega⟩
end
theorem off_nov {a b : Nat} (h : a ≠ b) : Off a nov b nov := fun k x y => by
  rcases x with rfl | x
  · rcases y with y | y
    · exact h y
    · cases y
  · cases x
theorem evAt_tell1 {X Y : List Pr} {j : Nat} (h : j < X.length) : evAt (tellP 1 X ++ tellP 2 Y) j = ⟨1, (pt X j).a, (pt X j).b⟩ := by
  rw [evAt_append_left (by rw [tellP_length]; exact h)]
  unfold evAt tellP pt
  rw [List.getElem?_map, List.getElem?_eq_getElem h]
  rfl
theorem evAt_tell2 {X Y : List Pr} {i : Nat} (h : i < Y.length) : evAt (tellP 1 X ++ tellP 2 Y) (X.length + i) = ⟨2, (pt Y i).a, (pt Y i).b⟩ := by
  unfold evAt
  rw [List.getElem?_append_right (by rw [tellP_length]; omega), tellP_length, Nat.add_sub_cancel_left]
  unfold tellP pt
  rw [List.getElem?_map, List.getElem?_eq_getElem h]
  rfl
theorem pair_of19 {H : Type} {enc : TypeId × Value → H} {W : World} {base : Nat} {spare : Nat → Bool} {held : Bool} {fuel : Nat} {cs : List Value} {x : DataW H × List MemPlace} (hl : cs.length = 2) (h : DataW.trod enc Try.prog W base spare held fuel 60 cs = some x) : ∃ q : Pr, cs = [.int .i64 q.a, .int .i64 q.b] := by
  obtain ⟨u0, u1, rfl⟩ := list2 hl
  obtain ⟨xs, n, _, _, _, hxl, hel⟩ := DataW.trod_struct Try.underlying60 h
  have hch : Try.prog.cellsOf 35 = 1 := by kernel_rfl
  have some_of : ∀ j, j < 2 → ∃ z, xs[j]? = some z := fun j hj => ⟨_, List.getElem?_eq_getElem (by rw [hxl]; exact hj)⟩
  obtain ⟨z0, hz0⟩ := some_of 0 (by omega)
  obtain ⟨z1, hz1⟩ := some_of 1 (by omega)
  have e0 := hel 0 _ rfl
  have e1 := hel 1 _ rfl
  rw [hz0] at e0
  rw [hz1] at e1
  have q0 : DataW.trod enc Try.prog W base spare held n 35 [u0] = some z0 := by have this : DataW.trod enc Try.prog W base spare held n 35 (([u0, u1].drop 0).take (Try.prog.cellsOf 35)) = some z0 := e0; rw [hch] at this; exact this
  have q1 : DataW.trod enc Try.prog W base spare held n 35 [u1] = some z1 := by have this : DataW.trod enc Try.prog W base spare held n 35 (([u0, u1].drop 1).take (Try.prog.cellsOf 35)) = some z1 := e1; rw [hch] at this; exact this
  obtain ⟨a, h1, _⟩ := zlit Try.underlying35 q0
  obtain ⟨b, h2, _⟩ := zlit Try.underlying35 q1
  simp only [List.cons.injEq, and_true] at h1 h2
  exact ⟨⟨a, b⟩, by rw [h1, h2]⟩
set_option maxRecDepth 100000 in
theorem open_pairs19 {H : Type} {enc : TypeId × Value → H} {w : World} {base : Nat} {spare : Nat → Bool} {held : Bool} {r : Reach} {b0 : Nat} {v : Value} {d : DataW H} {p : List MemPlace} (hv : Value.okWide Try.prog w r b0 50 v) (h : DataW.Trod enc Try.prog w base spare held 50 v d p) :
    ∃ (o : Option Addr) (L : List Pr) (c : Nat), v = .slice o L.length c ∧ Lies w (.slice o L.length c) L := by
  obtain ⟨a, len, cap, rfl⟩ := okWide_slice Try.underlying50 hv
  obtain ⟨fuel, hf⟩ := h
  obtain ⟨o, L, c, e, h1, h2, _, h4⟩ := open_list (α := Pr) 2 Try.underlying50 (by kernel_rfl) (by omega) (fun m => True) (fun q cs => cs = [.int .i64 q.a, .int .i64 q.b]) (fun fuel cs x hl ht _ => pair_of19 hl ht) (u := .slice a len cap) hf (fun _ _ => trivial)
  refine ⟨o, L, c, e, ⟨o, c, rfl, h1, h2, fun i hi => ?_⟩⟩
  obtain ⟨q, cs, g, off, hq, rfl, _, ho, hc⟩ := h4 i hi
  have eq : pt L i = q := by unfold pt; rw [hq]; rfl
  rw [eq]
  exact ⟨g, off, ho, hc 0 _ rfl, hc 1 _ rfl⟩
end Go.Proofs.Ytbbmjfaflcbimaa
