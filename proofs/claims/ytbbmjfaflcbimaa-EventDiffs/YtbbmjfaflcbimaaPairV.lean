/- Two sets and two of the reference's, side by side, and a box. -/
import Derived.Test.YtbbmjfaflcbimaaPairU
namespace Go.Proofs.Ytbbmjfaflcbimaa
open Go.RowKit Go.Shelf
set_option linter.unusedVariables false

/-- Which blocks a set has. -/
def Foot (ob : Nat) (v : Value) (b : Nat) : Prop := b = ob ∨ v.ownBlock = some b
/-- Two that share none. -/
def Off (ob : Nat) (v : Value) (ob' : Nat) (v' : Value) : Prop := ∀ b, Foot ob v b → Foot ob' v' b → False
theorem Off.symm {a b : Nat} {u v : Value} (h : Off a u b v) : Off b v a u := fun k x y => h k y x
theorem Off.conds {sq sp : Nat} {u v : Value} {row : Option Nat} (h : Off sq u sp v) (hr : row = u.ownBlock ∨ row = none) : sp ≠ sq ∧ some sp ≠ row ∧ v.ownBlock ≠ some sq ∧ (v.ownBlock = none ∨ v.ownBlock ≠ row) := by
  refine ⟨fun e => h sp (Or.inl e) (Or.inl rfl), fun e => ?_, fun e => h sq (Or.inl rfl) (Or.inr e), ?_⟩
  · rcases hr with hr | hr
    · exact h sp (Or.inr (by rw [← hr]; exact e.symm)) (Or.inl rfl)
    · rw [hr] at e; cases e
  · cases hv : v.ownBlock with
    | none => exact Or.inl rfl
    | some k =>
      right
      intro e
      rcases hr with hr | hr
      · exact h k (Or.inr (by rw [← hr]; exact e.symm)) (Or.inr hv)
      · rw [hr] at e; cases e
theorem Off.turn {n sq sp : Nat} {u u' v : Value} (h : Off sq u sp v) (hlt : ∀ b, Foot sp v b → b < n) (hu : u'.ownBlock = u.ownBlock ∨ u'.ownBlock = none ∨ ∃ g, u'.ownBlock = some g ∧ n ≤ g) : Off sq u' sp v := by
  rintro b (rfl | hb) hf
  · exact h b (Or.inl rfl) hf
  · rcases hu with e | e | ⟨g, e, hg⟩
    · exact h b (Or.inr (by rw [← e]; exact hb)) hf
    · rw [e] at hb; cases hb
    · rw [e] at hb
      simp only [Option.some.injEq] at hb
      have := hlt b hf
      omega
theorem IsSet.foot {W : World} {sp base : Nat} {v : Value} {room : Nat} {L : List Pr} (h : IsSet W sp base v room L) : ∀ b, Foot sp v b → b < W.heap.size := by
  rintro b (rfl | hb)
  · exact h.lt
  · exact (h.own.lt b hb).2
theorem IsRef.foot {W : World} {sp base : Nat} {v : Value} {room : Nat} {L : List Pr} (h : IsRef W sp base v room L) : ∀ b, Foot sp v b → b < W.heap.size := by
  rintro b (rfl | hb)
  · exact h.lt
  · exact (h.own.lt b hb).2
theorem IsRef.ch {w W : World} {sp base : Nat} {v : Value} {room : Nat} {L : List Pr} {sq : Nat} {row : Option Nat} (h : IsRef w sp base v room L) (hg : Ch w W sq row) (h1 : sp ≠ sq) (h2 : some sp ≠ row) (h3 : v.ownBlock ≠ some sq) (h4 : v.ownBlock = none ∨ v.ownBlock ≠ row) : IsRef W sp base v room L := by
  refine ⟨(hg.block sp h.lt h1 h2).trans h.obj, ?_, h.len, h.rm, h.sorted⟩
  have ho := h.own
  cases e : v.ownBlock with
  | none =>
    refine ⟨ho.1, ?_⟩
    rcases ho.2 with a | ⟨g, cap, cur, rfl, _⟩
    · exact Or.inl a
    · cases e
  | some k =>
    have hk := ho.lt k e
    refine ⟨ho.1, ?_⟩
    rcases ho.2 with a | ⟨g, cap, cur, rfl, a1, a2, a3⟩
    · exact Or.inl a
    · have e' : g = k := by simpa [Value.ownBlock] using e
      subst e'
      refine Or.inr ⟨g, cap, cur, rfl, a1, (hg.block g hk.2 (fun x => h3 (by rw [e, x])) (fun x => ?_)).trans a2, a3⟩
      rcases h4 with h4 | h4
      · rw [h4] at e; cases e
      · exact h4 (by rw [e]; exact x)

structure Quad (w W : World) (ss tt rr qq : Nat) (vs vt vr vq : Value) (n m : Nat) (A A' B B' : List Pr) : Prop where
  s : IsSet W ss w.heap.size vs n A
  t : IsSet W tt w.heap.size vt m B
  r : IsRef W rr w.heap.size vr n A'
  q : IsRef W qq w.heap.size vq m B'
  below : Below w.heap.size w W
  hs : w.heap.size ≤ ss
  ht : w.heap.size ≤ tt
  hr : w.heap.size ≤ rr
  hq : w.heap.size ≤ qq
  st : Off ss vs tt vt
  sr : Off ss vs rr vr
  sq : Off ss vs qq vq
  tr : Off tt vt rr vr
  tq : Off tt vt qq vq
  rq : Off rr vr qq vq
theorem Quad.swap {w W : World} {ss tt rr qq : Nat} {vs vt vr vq : Value} {n m : Nat} {A A' B B' : List Pr} (h : Quad w W ss tt rr qq vs vt vr vq n m A A' B B') : Quad w W tt ss qq rr vt vs vq vr m n B B' A A' :=
  ⟨h.t, h.s, h.q, h.r, h.below, h.ht, h.hs, h.hq, h.hr, h.st.symm, h.tq, h.tr, h.sq, h.sr, h.rq.symm⟩
theorem Quad.step {w W V : World} {ss tt rr qq : Nat} {vs vt vr vq : Value} {n m : Nat} {A A' B B' : List Pr} (h : Quad w W ss tt rr qq vs vt vr vq n m A A' B B') (hb : Below W.heap.size W V) : Quad w V ss tt rr qq vs vt vr vq n m A A' B B' :=
  ⟨h.s.below hb, h.t.below hb, h.r.below hb, h.q.below hb, h.below.trans (hb.mono h.below.size), h.hs, h.ht, h.hr, h.hq, h.st, h.sr, h.sq, h.tr, h.tq, h.rq⟩

abbrev nov : Value := .slice none 0 0
/-- .. and a box with a pair. -/
structure Five (w W : World) (ss tt rr qq pb : Nat) (vs vt vr vq : Value) (n m : Nat) (A A' B B' : List Pr) (p : Pr) : Prop where
  quad : Quad w W ss tt rr qq vs vt vr vq n m A A' B B'
  box : W.heap[pb]? = some (.cells #[.int .i64 p.a, .int .i64 p.b] 60 (0, 0))
  hp : w.heap.size ≤ pb
  ps : Off pb nov ss vs
  pt : Off pb nov tt vt
  pr : Off pb nov rr vr
  pq : Off pb nov qq vq
section
variable {w W V : World} {ss tt rr qq pb : Nat} {vs vt vr vq : Value} {n m : Nat} {A A' B B' : List Pr} {p : Pr}
theorem Five.lt (h : Five w W ss tt rr qq pb vs vt vr vq n m A A' B B' p) : pb < W.heap.size := (Array.getElem?_eq_some_iff.1 h.box).1
theorem Five.c0 (h : Five w W ss tt rr qq pb vs vt vr vq n m A A' B B' p) : W.cell? ⟨pb, 0, none⟩ = some (.int .i64 p.a) := by simp [World.cell?, h.box]
theorem Five.c1 (h : Five w W ss tt rr qq pb vs vt vr vq n m A A' B B' p) : W.cell? ⟨pb, 1, none⟩ = some (.int .i64 p.b) := by simp [World.cell?, h.box]
theorem Five.step (h : Five w W ss tt rr qq pb vs vt vr vq n m A A' B B' p) (hb : Below W.heap.size W V) : Five w V ss tt rr qq pb vs vt vr vq n m A A' B B' p :=
  ⟨h.quad.step hb, (hb.block pb h.lt).trans h.box, h.hp, h.ps, h.pt, h.pr, h.pq⟩
theorem Five.swap (h : Five w W ss tt rr qq pb vs vt vr vq n m A A' B B' p) : Five w W tt ss qq rr pb vt vs vq vr m n B B' A A' p := ⟨h.quad.swap, h.box, h.hp, h.pt, h.ps, h.pq, h.pr⟩
theorem off_new {ob b : Nat} {v : Value} {k : Nat} (hf : ∀ b, Foot ob v b → b < k) (hb : k ≤ b) : Off b nov ob v := by
  rintro c (rfl | h) hc
  · have := hf c hc; omega
  · cases h
/-- The box is new. -/
theorem Five.new (h : Quad w W ss tt rr qq vs vt vr vq n m A A' B B') (hb : Below W.heap.size W V) (hp : W.heap.size ≤ pb) (hx : V.heap[pb]? = some (.cells #[.int .i64 p.a, .int .i64 p.b] 60 (0, 0))) : Five w V ss tt rr qq pb vs vt vr vq n m A A' B B' p :=
  ⟨h.step hb, hx, Nat.le_trans h.below.size hp, off_new h.s.foot hp, off_new h.t.foot hp, off_new h.r.foot hp, off_new h.q.foot hp⟩
/-- The box is written. -/
theorem Five.put (h : Five w W ss tt rr qq pb vs vt vr vq n m A A' B B' p) (hc : Ch W V pb none) (q : Pr) (hx : V.heap[pb]? = some (.cells #[.int .i64 q.a, .int .i64 q.b] 60 (0, 0))) : Five w V ss tt rr qq pb vs vt vr vq n m A A' B B' q := by
  obtain ⟨a1, a2, a3, a4⟩ := h.ps.conds (row := none) (Or.inr rfl)
  obtain ⟨b1, b2, b3, b4⟩ := h.pt.conds (row := none) (Or.inr rfl)
  obtain ⟨c1, c2, c3, c4⟩ := h.pr.conds (row := none) (Or.inr rfl)
  obtain ⟨d1, d2, d3, d4⟩ := h.pq.conds (row := none) (Or.inr rfl)
  have g := h.quad
  exact ⟨⟨g.s.ch hc a1 a2 a3 a4, g.t.ch hc b1 b2 b3 b4, g.r.ch hc c1 c2 c3 c4, g.q.ch hc d1 d2 d3 d4, hc.below g.below g.below.size h.hp (fun k e => by cases e), g.hs, g.ht, g.hr, g.hq, g.st, g.sr, g.sq, g.tr, g.tq, g.rq⟩, hx, h.hp, h.ps, h.pt, h.pr, h.pq⟩
theorem Five.turnS {vs' : Value} {A2 : List Pr} (h : Five w W ss tt rr qq pb vs vt vr vq n m A A' B B' p) (hs : IsSet V ss w.heap.size vs' n A2) (hc : Ch W V ss vs.ownBlock) (hv : vs'.ownBlock = vs.ownBlock ∨ vs'.ownBlock = none ∨ ∃ g, vs'.ownBlock = some g ∧ W.heap.size ≤ g) : Five w V ss tt rr qq pb vs' vt vr vq n m A2 A' B B' p := by
  have g := h.quad
  obtain ⟨b1, b2, b3, b4⟩ := g.st.conds (row := vs.ownBlock) (Or.inl rfl)
  obtain ⟨c1, c2, c3, c4⟩ := g.sr.conds (row := vs.ownBlock) (Or.inl rfl)
  obtain ⟨d1, d2, d3, d4⟩ := g.sq.conds (row := vs.ownBlock) (Or.inl rfl)
  obtain ⟨e1, e2, e3, e4⟩ := h.ps.symm.conds (row := vs.ownBlock) (Or.inl rfl)
  have hpf : ∀ b, Foot pb nov b → b < W.heap.size := by
    rintro b (rfl | hb)
    · exact h.lt
    · cases hb
  exact ⟨⟨hs, g.t.ch hc b1 b2 b3 b4, g.r.ch hc c1 c2 c3 c4, g.q.ch hc d1 d2 d3 d4, hc.below g.below g.below.size g.hs (fun k e => (g.s.own.lt k e).1), g.hs, g.ht, g.hr, g.hq, g.st.turn g.t.foot hv, g.sr.turn g.r.foot hv, g.sq.turn g.q.foot hv, g.tr, g.tq, g.rq⟩, (hc.block pb h.lt e1 e2).trans h.box, h.hp, (h.ps.symm.turn hpf hv).symm, h.pt, h.pr, h.pq⟩
theorem Five.turnR {vr' : Value} {A2 : List Pr} (h : Five w W ss tt rr qq pb vs vt vr vq n m A A' B B' p) (hs : IsRef V rr w.heap.size vr' n A2) (hc : Ch W V rr none) (hv : vr'.ownBlock = vr.ownBlock ∨ vr'.ownBlock = none ∨ ∃ g, vr'.ownBlock = some g ∧ W.heap.size ≤ g) : Five w V ss tt rr qq pb vs vt vr' vq n m A A2 B B' p := by
  have g := h.quad
  obtain ⟨b1, b2, b3, b4⟩ := g.sr.symm.conds (row := none) (Or.inr rfl)
  obtain ⟨c1, c2, c3, c4⟩ := g.tr.symm.conds (row := none) (Or.inr rfl)
  obtain ⟨d1, d2, d3, d4⟩ := g.rq.conds (row := none) (Or.inr rfl)
  obtain ⟨e1, e2, e3, e4⟩ := h.pr.symm.conds (row := none) (Or.inr rfl)
  have hpf : ∀ b, Foot pb nov b → b < W.heap.size := by
    rintro b (rfl | hb)
    · exact h.lt
    · cases hb
  exact ⟨⟨g.s.ch hc b1 b2 b3 b4, g.t.ch hc c1 c2 c3 c4, hs, g.q.ch hc d1 d2 d3 d4, hc.below g.below g.below.size g.hr (fun k e => by cases e), g.hs, g.ht, g.hr, g.hq, g.st, (g.sr.symm.turn g.s.foot hv).symm, g.sq, (g.tr.symm.turn g.t.foot hv).symm, g.tq, g.rq.turn g.q.foot hv⟩, (hc.block pb h.lt e1 e2).trans h.box, h.hp, h.ps, h.pt, (h.pr.symm.turn hpf hv).symm, h.pq⟩
end
/-- What the six calls do. -/
theorem q_put_s {w W : World} {ss tt rr qq pb : Nat} {vs vt vr vq : Value} {n m : Nat} {A A' B B' : List Pr} {p : Pr} (h : Five w W ss tt rr qq pb vs vt vr vq n m A A' B B' p) :
    Calls Try.prog 22 #[.pointer (some ⟨ss, 0, none⟩), .agg #[.int .i64 p.a, .int .i64 p.b]] W fun e V => e = .returned (.tuple #[.bool (putN n A p), .int .i64 (putE n A p)]) ∧ ∃ vs', Five w V ss tt rr qq pb vs' vt vr vq n m (putL n A p) A' B B' p :=
  (put_any ss w.heap.size vs n A p W h.quad.s h.quad.below.size).mono (by
    rintro e V ⟨rfl, v', a, b, c⟩
    exact ⟨rfl, v', h.turnS a b (c.imp id Or.inr)⟩)
theorem q_put_r {w W : World} {ss tt rr qq pb : Nat} {vs vt vr vq : Value} {n m : Nat} {A A' B B' : List Pr} {p : Pr} (h : Five w W ss tt rr qq pb vs vt vr vq n m A A' B B' p) :
    Calls Try.prog 23 #[.pointer (some ⟨rr, 0, none⟩), .agg #[.int .i64 p.a, .int .i64 p.b]] W fun e V => e = .returned (.tuple #[.bool (putN n A' p), .int .i64 (putE n A' p)]) ∧ ∃ vr', Five w V ss tt rr qq pb vs vt vr' vq n m A (putL n A' p) B B' p :=
  (rput_any rr w.heap.size vr n A' p W h.quad.r h.quad.below.size).mono (by
    rintro e V ⟨rfl, v', a, b, c⟩
    exact ⟨rfl, v', h.turnR a b c⟩)
theorem q_drop_s {w W : World} {ss tt rr qq pb : Nat} {vs vt vr vq : Value} {n m : Nat} {A A' B B' : List Pr} {p : Pr} (h : Five w W ss tt rr qq pb vs vt vr vq n m A A' B B' p) :
    Calls Try.prog 26 #[.pointer (some ⟨ss, 0, none⟩), .agg #[.int .i64 p.a, .int .i64 p.b]] W fun e V => e = .returned (.bool (decide (p ∈ A))) ∧ ∃ vs', Five w V ss tt rr qq pb vs' vt vr vq n m (A.filter (fun q => decide (q ≠ p))) A' B B' p :=
  (drop_any ss w.heap.size vs n A p W h.quad.s).mono (by
    rintro e V ⟨rfl, v', a, b, c⟩
    exact ⟨rfl, v', h.turnS a b (Or.inl c)⟩)
/-- The same, with letters. -/
theorem q_put_s2 {w W : World} {ss tt rr qq pb : Nat} {vs vt vr vq : Value} {n m : Nat} {A A' B B' A2 : List Pr} {pa pq : Int} {dn : Bool} {de : Int} (h : Five w W ss tt rr qq pb vs vt vr vq n m A A' B B' ⟨pa, pq⟩) (h1 : putN n A ⟨pa, pq⟩ = dn) (h2 : putE n A ⟨pa, pq⟩ = de) (h3 : putL n A ⟨pa, pq⟩ = A2) :
    Calls Try.prog 22 #[.pointer (some ⟨ss, 0, none⟩), .agg #[.int .i64 pa, .int .i64 pq]] W fun e V => e = .returned (.tuple #[.bool dn, .int .i64 de]) ∧ ∃ vs', Five w V ss tt rr qq pb vs' vt vr vq n m A2 A' B B' ⟨pa, pq⟩ := by
  subst h1 h2 h3; exact q_put_s h
theorem q_put_r2 {w W : World} {ss tt rr qq pb : Nat} {vs vt vr vq : Value} {n m : Nat} {A A' B B' A2 : List Pr} {pa pq : Int} {dn : Bool} {de : Int} (h : Five w W ss tt rr qq pb vs vt vr vq n m A A' B B' ⟨pa, pq⟩) (h1 : putN n A' ⟨pa, pq⟩ = dn) (h2 : putE n A' ⟨pa, pq⟩ = de) (h3 : putL n A' ⟨pa, pq⟩ = A2) :
    Calls Try.prog 23 #[.pointer (some ⟨rr, 0, none⟩), .agg #[.int .i64 pa, .int .i64 pq]] W fun e V => e = .returned (.tuple #[.bool dn, .int .i64 de]) ∧ ∃ vr', Five w V ss tt rr qq pb vs vt vr' vq n m A A2 B B' ⟨pa, pq⟩ := by
  subst h1 h2 h3; exact q_put_r h
theorem q_drop_s2 {w W : World} {ss tt rr qq pb : Nat} {vs vt vr vq : Value} {n m : Nat} {A A' B B' A2 : List Pr} {pa pq : Int} {dd : Bool} (h : Five w W ss tt rr qq pb vs vt vr vq n m A A' B B' ⟨pa, pq⟩) (h1 : decide ((⟨pa, pq⟩ : Pr) ∈ A) = dd) (h3 : A.filter (fun q => decide (q ≠ (⟨pa, pq⟩ : Pr))) = A2) :
    Calls Try.prog 26 #[.pointer (some ⟨ss, 0, none⟩), .agg #[.int .i64 pa, .int .i64 pq]] W fun e V => e = .returned (.bool dd) ∧ ∃ vs', Five w V ss tt rr qq pb vs' vt vr vq n m A2 A' B B' ⟨pa, pq⟩ := by
  subst h1 h3; exact q_drop_s h
theorem Five.d0 {w W : World} {ss tt rr qq pb : Nat} {vs vt vr vq : Value} {n m : Nat} {A A' B B' : List Pr} {pa pq : Int} (h : Five w W ss tt rr qq pb vs vt vr vq n m A A' B B' ⟨pa, pq⟩) : W.cell? ⟨pb, 0, none⟩ = some (.int .i64 pa) := h.c0
theorem Five.d1 {w W : World} {ss tt rr qq pb : Nat} {vs vt vr vq : Value} {n m : Nat} {A A' B B' : List Pr} {pa pq : Int} (h : Five w W ss tt rr qq pb vs vt vr vq n m A A' B B' ⟨pa, pq⟩) : W.cell? ⟨pb, 1, none⟩ = some (.int .i64 pq) := h.c1
end Go.Proofs.Ytbbmjfaflcbimaa
