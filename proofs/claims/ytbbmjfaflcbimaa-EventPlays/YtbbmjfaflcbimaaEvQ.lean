/- Layer 19: scripts that are read; the queue beside the document's own. -/
import Derived.Test.YtbbmjfaflcbimaaEvO
import Derived.Test.YtbbmjfaflcbimaaEvI
import Derived.Test.YtbbmjfaflcbimaaEvF
namespace Go.Proofs.Ytbbmjfaflcbimaa
open Go.ChangeShapes Go.WideShapes Go.Deep Go.Joins Go.RowKit Go.Shelf
set_option linter.unusedVariables false

/-- A step. -/
structure St where
  what : Int
  l : List Ev
/-- Scripts that are read. -/
structure LiesS (W : World) (v : Value) (L : List St) : Prop where
  form : ∃ o cap, v = .slice o L.length cap ∧ L.length ≤ cap ∧ cap ≤ 9223372036854775807 ∧ ∀ i, i < L.length → ∃ g off o2 c2 s, o = some ⟨g, off, none⟩ ∧ L[i]? = some s ∧ W.cell? ⟨g, off + i * 2, none⟩ = some (.int .i64 s.what) ∧ W.cell? ⟨g, off + i * 2 + 1, none⟩ = some (.slice o2 s.l.length c2) ∧ LiesE W (.slice o2 s.l.length c2) s.l ∧ -9223372036854775808 ≤ s.what ∧ s.what ≤ 9223372036854775807
set_option maxRecDepth 100000 in
theorem open_steps19 {H : Type} {enc : TypeId × Value → H} {w : World} {base : Nat} {spare : Nat → Bool} {held : Bool} {r : Reach} {b0 : Nat} {v : Value} {d : DataW H} {p : List MemPlace} (hv : Value.okWide Try.prog w r b0 22 v) (h : DataW.Trod enc Try.prog w base spare held 22 v d p) :
    ∃ (o : Option Addr) (L : List St) (c : Nat), v = .slice o L.length c ∧ LiesS w (.slice o L.length c) L := by
  obtain ⟨a, len, cap, rfl⟩ := okWide_slice Try.underlying22 hv
  obtain ⟨fuel, hf⟩ := h
  obtain ⟨o, L, c, e, h1, h2, _, h4⟩ := open_list (α := St) 2 Try.underlying22 (by kernel_rfl) (by omega) (fun m => True) (fun s cs => ∃ o2 c2, cs = [.int .i64 s.what, .slice o2 s.l.length c2] ∧ LiesE w (.slice o2 s.l.length c2) s.l ∧ -9223372036854775808 ≤ s.what ∧ s.what ≤ 9223372036854775807)
    (fun fuel cs x hl ht hP => by
      obtain ⟨u0, u1, rfl⟩ := list2 hl
      obtain ⟨xs, n, _, _, _, hxl, hel⟩ := DataW.trod_struct Try.underlying33 ht
      have hc1 : Try.prog.cellsOf 3 = 1 := by kernel_rfl
      have hch : Try.prog.cellsOf 31 = 1 := by kernel_rfl
      have some_of : ∀ j, j < 2 → ∃ z, xs[j]? = some z := fun j hj => ⟨_, List.getElem?_eq_getElem (by rw [hxl]; exact hj)⟩
      obtain ⟨z0, hz0⟩ := some_of 0 (by omega)
      obtain ⟨z1, hz1⟩ := some_of 1 (by omega)
      have e0 := hel 0 _ rfl
      have e1 := hel 1 _ rfl
      rw [hz0] at e0
      rw [hz1] at e1
      have q0 : DataW.trod enc Try.prog w base spare held n 3 [u0] = some z0 := by have this : DataW.trod enc Try.prog w base spare held n 3 (([u0, u1].drop 0).take (Try.prog.cellsOf 3)) = some z0 := e0; rw [hc1] at this; exact this
      have q1 : DataW.trod enc Try.prog w base spare held n 31 [u1] = some z1 := by have this : DataW.trod enc Try.prog w base spare held n 31 (([u0, u1].drop 1).take (Try.prog.cellsOf 31)) = some z1 := e1; rw [hch] at this; exact this
      obtain ⟨k, h0, b0, b1⟩ := zlit Try.underlying3 q0
      obtain ⟨o2, l, c2, rfl, hE, _⟩ := events_of q1
      simp only [List.cons.injEq, and_true] at h0
      exact ⟨⟨k, l⟩, o2, c2, by rw [h0], hE, b0, b1⟩) (u := .slice a len cap) hf (fun _ _ => trivial)
  refine ⟨o, L, c, e, ⟨o, c, rfl, h1, h2, fun i hi => ?_⟩⟩
  obtain ⟨q, cs, g, off, hq, ⟨o2, c2, rfl, hE, hb0, hb1⟩, _, ho, hc⟩ := h4 i hi
  exact ⟨g, off, o2, c2, q, ho, hq, hc 0 _ rfl, hc 1 _ rfl, hE, hb0, hb1⟩

/-- The queue, which holds C, beside the document's own, which holds D. -/
structure PL (w0 W : World) (qp rb rp room : Nat) (v : Value) (C D : List Ev) : Prop where
  qu : Qu W qp rb room C
  r : IsR W rp w0.heap.size v room D
  below : Below w0.heap.size w0 W
  ge : w0.heap.size ≤ qp ∧ w0.heap.size ≤ rb ∧ w0.heap.size ≤ rp
  ne : qp ≠ rp ∧ rb ≠ rp ∧ v.ownBlock ≠ some qp ∧ v.ownBlock ≠ some rb
section
variable {w0 W V : World} {qp rb rp room : Nat} {v v' : Value} {C D C' D' : List Ev}
theorem PL.step (h : PL w0 W qp rb rp room v C D) (hb : Below W.heap.size W V) : PL w0 V qp rb rp room v C D := ⟨Qu.below h.qu hb, h.r.below hb, z_step h.below hb, h.ge, h.ne⟩
theorem PL.q (h : PL w0 W qp rb rp room v C D) (hq : Qu V qp rb room C') (ht : Two2 W V qp rb) : PL w0 V qp rb rp room v C' D :=
  ⟨hq, h.r.two ht (Ne.symm h.ne.1) (Ne.symm h.ne.2.1) h.ne.2.2.1 h.ne.2.2.2, Two2.below h.below h.below.size h.ge.1 h.ge.2.1 ht, h.ge, h.ne⟩
theorem PL.rr (h : PL w0 W qp rb rp room v C D) (hr : IsR V rp w0.heap.size v' room D') (ht : RT W V rp v) (hv : ∀ k, v'.ownBlock = some k → v.ownBlock = some k ∨ W.heap.size ≤ k) : PL w0 V qp rb rp room v' C D' := by
  have hl := Qu.lt h.qu
  refine ⟨Qu.rt h.qu ht h.ne.1 h.ne.2.1 h.ne.2.2.1 h.ne.2.2.2, hr, RT.below h.below h.below.size h.ge.2.2 (fun k e => (h.r.own.lt k e).1) ht, h.ge, h.ne.1, h.ne.2.1, fun e => ?_, fun e => ?_⟩
  · rcases hv _ e with e' | e'
    · exact h.ne.2.2.1 e'
    · omega
  · rcases hv _ e with e' | e'
    · exact h.ne.2.2.2 e'
    · omega
theorem PL.far (h : PL w0 W qp rb rp room v C D) (a : Addr) (u : Value) (h1 : w0.heap.size ≤ a.block) (h2 : qp ≠ a.block) (h3 : rb ≠ a.block) (h4 : rp ≠ a.block) (h5 : v.ownBlock ≠ some a.block) : PL w0 (W.setCell a u) qp rb rp room v C D := by
  obtain ⟨R, f, hq, hR, hr⟩ := h.qu
  exact ⟨⟨R, f, hq.far u h2 h3, hR, hr⟩, h.r.far a u h4 (fun k e x => h5 (by rw [e, x])), h.below.setCell h1 u, h.ge, h.ne⟩
theorem PL.clone {qp' rb' : Nat} (h : PL w0 W qp rb rp room v C D) (hq : Qu V qp' rb' room C) (hb : Below W.heap.size W V) (h1 : W.heap.size ≤ qp') (h2 : W.heap.size ≤ rb') : PL w0 V qp' rb' rp room v C D := by
  have hs := h.below.size
  have hr := h.r.lt
  refine ⟨hq, h.r.below hb, z_step h.below hb, ⟨by omega, by omega, h.ge.2.2⟩, by omega, by omega, fun e => by have := (h.r.own.lt _ e).2; omega, fun e => by have := (h.r.own.lt _ e).2; omega⟩
/-- Another queue is turned. -/
theorem PL.other {p q : Nat} (h : PL w0 W qp rb rp room v C D) (ht : Two2 W V p q) (hp : w0.heap.size ≤ p ∧ w0.heap.size ≤ q) (n1 : qp ≠ p ∧ qp ≠ q ∧ rb ≠ p ∧ rb ≠ q) (n2 : rp ≠ p ∧ rp ≠ q) (n3 : v.ownBlock ≠ some p ∧ v.ownBlock ≠ some q) : PL w0 V qp rb rp room v C D :=
  ⟨Qu.two h.qu ht n1.1 n1.2.1 n1.2.2.1 n1.2.2.2, h.r.two ht n2.1 n2.2 n3.1 n3.2, Two2.below h.below h.below.size hp.1 hp.2 ht, h.ge, h.ne⟩
theorem take_any (h : Qu W qp rb room C) : Calls Try.prog 10 #[.pointer (some ⟨qp, 0, none⟩)] W fun e V => ∃ (x : Ev) (t : Bool) (C' : List Ev), e = .returned (.tuple #[x.v, .bool t]) ∧ Qu V qp rb room C' ∧ Two2 W V qp rb := by
  obtain ⟨R, f, hq, hR, hr⟩ := h
  cases C with
  | nil =>
    refine Calls.mono (qtake_none qp rb R f W hq) ?_
    rintro e V ⟨rfl, hb⟩
    exact ⟨Ev.O, false, [], rfl, ⟨R, f, hq.below hb, hR, hr⟩, Two2.of_below hb _ _⟩
  | cons x C =>
    have hr2 : ring R f (C.length + 1) = x :: C := hr
    have ht := ring_take R f C.length Ev.O hq.first hq.count
    rw [hr2] at ht
    injection ht with h1 h2
    refine Calls.mono (qtake_some qp rb R f C.length W hq) ?_
    rintro e V ⟨rfl, hq', htwo⟩
    exact ⟨x, true, C, by rw [h1], ⟨_, _, hq', by rw [List.length_set]; exact hR, h2.symm⟩, htwo⟩
theorem push_any (h : Qu W qp rb room C) (l : List Ev) (u : Value) (hl : LiesE W u l) (hf : l ≠ [] → Far u qp rb) : Calls Try.prog 13 #[.pointer (some ⟨qp, 0, none⟩), u] W fun e V => ∃ (z : Int) (C' : List Ev), e = .returned (.int .i64 z) ∧ Qu V qp rb room C' ∧ Two2 W V qp rb := by
  by_cases hfit : C.length + l.length ≤ room
  · refine Calls.mono (qpush_fits qp rb room C l u W h hl hf hfit) ?_
    rintro e V ⟨rfl, hq, ht⟩
    exact ⟨0, _, rfl, hq, ht⟩
  · refine Calls.mono (qpush_full qp rb room C l u W h hl (by omega)) ?_
    rintro e V ⟨rfl, hb⟩
    exact ⟨190, C, rfl, Qu.below h hb, Two2.of_below hb _ _⟩
/-- .. and a step's box. -/
structure PS (w0 W : World) (qp rb rp room : Nat) (v : Value) (C D : List Ev) (S0 : Nat) (u : Value) : Prop where
  pl : PL w0 W qp rb rp room v C D
  b1 : W.cell? ⟨S0, 1, none⟩ = some u
  ap : S0 ≠ qp ∧ S0 ≠ rb ∧ S0 ≠ rp ∧ v.ownBlock ≠ some S0
theorem PS.step {S0 : Nat} {u : Value} (h : PS w0 W qp rb rp room v C D S0 u) (hb : Below W.heap.size W V) : PS w0 V qp rb rp room v C D S0 u := ⟨h.pl.step hb, z_after hb h.b1, h.ap⟩
def pushC (room : Nat) (C l : List Ev) : List Ev := if C.length + l.length ≤ room then C ++ l else C
def pushZ (room : Nat) (C l : List Ev) : Int := if C.length + l.length ≤ room then 0 else 190
theorem PS.q {S0 : Nat} {u : Value} {l : List Ev} (h : PS w0 W qp rb rp room v C D S0 u) (hl : LiesE w0 u l) :
    Calls Try.prog 13 #[.pointer (some ⟨qp, 0, none⟩), u] W fun e V => e = .returned (.int .i64 (pushZ room C l)) ∧ PS w0 V qp rb rp room v (pushC room C l) D S0 u := by
  have hl' := hl.below h.pl.below
  have hf := hl.far h.pl.ge.1 h.pl.ge.2.1
  unfold pushC pushZ
  by_cases hfit : C.length + l.length ≤ room
  · rw [if_pos hfit, if_pos hfit]
    refine Calls.mono (qpush_fits qp rb room C l u W h.pl.qu hl' hf hfit) ?_
    rintro e V ⟨rfl, hq, ht⟩
    exact ⟨rfl, h.pl.q hq ht, ht.cell h.b1 h.ap.1 h.ap.2.1, h.ap⟩
  · rw [if_neg hfit, if_neg hfit]
    refine Calls.mono (qpush_full qp rb room C l u W h.pl.qu hl' (by omega)) ?_
    rintro e V ⟨rfl, hb⟩
    exact ⟨rfl, h.step hb⟩
theorem PS.r {S0 : Nat} {u : Value} {l : List Ev} (h : PS w0 W qp rb rp room v C D S0 u) (hl : LiesE w0 u l) :
    Calls Try.prog 14 #[.pointer (some ⟨rp, 0, none⟩), u] W fun e V => ∃ v', e = .returned (.int .i64 (pushZ room D l)) ∧ PS w0 V qp rb rp room v' C (pushC room D l) S0 u := by
  have hl' := hl.below h.pl.below
  unfold pushC pushZ
  by_cases hfit : D.length + l.length ≤ room
  · rw [if_pos hfit, if_pos hfit]
    refine Calls.mono (rpush_fits rp w0.heap.size room v u D l W h.pl.r hl' hfit h.pl.below.size) ?_
    rintro e V ⟨v', rfl, hr, hv, ht⟩
    have hS := World.block_lt_of_cell? _ _ h.b1
    have hvv : ∀ k, v'.ownBlock = some k → v.ownBlock = some k ∨ W.heap.size ≤ k := fun k e => by
      rcases hv with hv | ⟨k', hv, hk⟩
      · exact Or.inl (by rw [← hv, e])
      · rw [hv] at e; injection e with e; exact Or.inr (by omega)
    refine ⟨v', rfl, h.pl.rr hr ht hvv, (World.cell?_of_block (a := ⟨S0, 1, none⟩) (ht.block S0 hS h.ap.2.2.1 (fun e => h.ap.2.2.2 e.symm))).trans h.b1, h.ap.1, h.ap.2.1, h.ap.2.2.1, fun e => ?_⟩
    rcases hvv _ e with e' | e'
    · exact h.ap.2.2.2 e'
    · simp only at hS; omega
  · rw [if_neg hfit, if_neg hfit]
    refine Calls.mono (rpush_full rp w0.heap.size room v u D l W h.pl.r hl' (by omega)) ?_
    rintro e V ⟨rfl, hb⟩
    exact ⟨v, rfl, h.step hb⟩
def hdE : List Ev → Ev
  | [] => Ev.O
  | x :: _ => x
def isE : List Ev → Bool
  | [] => false
  | _ :: _ => true
theorem PL.take (h : PL w0 W qp rb rp room v C D) : Calls Try.prog 10 #[.pointer (some ⟨qp, 0, none⟩)] W fun e V => e = .returned (.tuple #[(hdE C).v, .bool (isE C)]) ∧ PL w0 V qp rb rp room v C.tail D := by
  obtain ⟨R, f, hq, hR, hr⟩ := h.qu
  cases C with
  | nil =>
    refine Calls.mono (qtake_none qp rb R f W hq) ?_
    rintro e V ⟨rfl, hb⟩
    exact ⟨rfl, h.step hb⟩
  | cons x C =>
    have hr2 : ring R f (C.length + 1) = x :: C := hr
    have ht := ring_take R f C.length Ev.O hq.first hq.count
    rw [hr2] at ht
    injection ht with h1 h2
    refine Calls.mono (qtake_some qp rb R f C.length W hq) ?_
    rintro e V ⟨rfl, hq', htwo⟩
    exact ⟨by rw [← h1]; rfl, h.q ⟨_, _, hq', by rw [List.length_set]; exact hR, h2.symm⟩ htwo⟩
theorem PL.rtake (h : PL w0 W qp rb rp room v C D) : Calls Try.prog 11 #[.pointer (some ⟨rp, 0, none⟩)] W fun e V => ∃ v', e = .returned (.tuple #[(hdE D).v, .bool (isE D)]) ∧ PL w0 V qp rb rp room v' C D.tail ∧ ∀ a u, W.cell? a = some u → a.block ≠ rp → v.ownBlock ≠ some a.block → V.cell? a = some u := by
  cases D with
  | nil =>
    refine Calls.mono (rtake_none rp w0.heap.size room v W h.r) ?_
    rintro e V ⟨rfl, hb⟩
    exact ⟨v, rfl, h.step hb, fun a u hc _ _ => z_after hb hc⟩
  | cons x D =>
    refine Calls.mono (rtake_some rp w0.heap.size room v x D W h.r h.below.size) ?_
    rintro e V ⟨v', rfl, hr, hv, ht⟩
    exact ⟨v', rfl, h.rr hr ht (fun k e => Or.inr (hv k e)), fun a u hc n1 n2 => (World.cell?_of_block (ht.block a.block (World.block_lt_of_cell? _ _ hc) n1 (fun e => n2 e.symm))).trans hc⟩
theorem PL.free (h : PL w0 W qp rb rp room v C D) : Calls Try.prog 16 #[.pointer (some ⟨qp, 0, none⟩)] W fun e V => e = .returned (.int .i64 ((room : Int) - (C.length : Int))) ∧ Below W.heap.size W V := by
  obtain ⟨R, f, hq, hR, hr⟩ := h.qu
  refine Calls.mono (qfree_any qp rb R f C.length W hq) ?_
  rintro e V ⟨rfl, hb⟩
  exact ⟨by rw [hR], hb⟩
theorem PL.rfree (h : PL w0 W qp rb rp room v C D) : Calls Try.prog 17 #[.pointer (some ⟨rp, 0, none⟩)] W fun e V => e = .returned (.int .i64 ((room : Int) - (D.length : Int))) ∧ Below W.heap.size W V := rfree19_any rp w0.heap.size room v D W h.r
end
theorem evs_setK : ∀ (M : List Ev) (i : Nat) (z : Int), i < M.length → evs (M.set i ⟨z, (evAt M i).a, (evAt M i).b⟩) = (evs M).set (i * 3) (.int .i64 z)
  | [], i, e, h => by simp at h
  | p :: r, 0, e, _ => rfl
  | p :: r, i + 1, z, h => by
    have e : evAt (p :: r) (i + 1) = evAt r i := by simp [evAt]
    rw [List.set_cons_succ, show (i + 1) * 3 = i * 3 + 1 + 1 + 1 by omega, e]
    simp only [evs, List.set_cons_succ]
    rw [evs_setK r i z (by simpa using h)]
theorem EL.setK {W : World} {g : Nat} {M : List Ev} (h : EL W g M) {i : Nat} (hi : i < M.length) (z : Int) : EL (W.setCell ⟨g, i * 3, none⟩ (.int .i64 z)) g (M.set i ⟨z, (evAt M i).a, (evAt M i).b⟩) := by
  constructor
  have h1 := heap_setCell_same W g (i * 3) _ _ (.int .i64 z) h.heap
  rw [h1, evs_setK M i z hi]
  simp
end Go.Proofs.Ytbbmjfaflcbimaa
