/- Lists of numbers that are appended whole, in a drawn region. -/
import Derived.Test.YtdbiikllcplmgaaIsH
namespace Go.Proofs.Ytdbiikllcplmgaa
open Go.RowKit Go.Shelf
set_option linter.unusedVariables false

theorem none_run {P : Program} {w : World} (base : Nat) (t ty e : TypeId) (i : TypeInfo) (size : Nat) (ht : P.underlying t = some (.slice e)) (hi : P.info? e = some i) (v : Value) (n c : Nat) (xs : List Value) (hown : w.ownsRow base e size v n xs) :
    (Builtin.append_ #[t, t] ty #[v, .slice none 0 c]).run P w = .ok v w := by
  rcases hown.2 with ⟨rfl, rfl⟩ | ⟨g, cap, cur, rfl, _, _, hnc, _⟩
  · simp [Builtin.append_, run_underlying ht, sizeOf, typeInfo, hi, Builtin.lenOf, Builtin.firstCells]
  · simp [Builtin.append_, run_underlying ht, sizeOf, typeInfo, hi, Builtin.lenOf, Builtin.firstCells, hnc, storeCells]
theorem exec_appI {w : World} {a : Act} (s x : Operand) (base : Nat) (v : Value) (M : List Int) (hs : a.eval s = v) (hown : w.ownsRow base 3 1 v M.length (ints M)) (xv : Value) (L : List Int) (hx : a.eval x = xv) (hl : RdI w xv L)
    (hN : M.length + L.length < 2199023255552) (hbase : base ≤ w.heap.size) :
    ∃ v' w', (∀ o : Oper, o.op = .call { callee := .builtin .append, args := #[s, x], argTypes := #[24, 24] } → o.type = 24 → (execOp a.eval o).run Try.prog w = .ok (.value v') w') ∧ w'.ownsRow base 3 1 v' (M ++ L).length (ints (M ++ L)) ∧ w.grownBy w' v.ownBlock := by
  obtain ⟨i0, hii, hiz, hisz, hib⟩ := info_parts int_info
  obtain ⟨oo, cap, rfl, hlc, hcm, hc⟩ := hl.form
  have go : ∀ (ad : Addr), oo = some ad → (∀ j u, (ints L)[j]? = some u → w.cell? (ad.add j) = some u) → _ := fun ad e hr => by
    subst e
    exact exec_app (P := Try.prog) (w := w) (a := a) s x 24 24 base 3 i0 _ 1 8 Try.underlying24 hii hiz hisz hib rfl (by decide) v M.length (ints M) hs hown ad L.length cap (ints L) hx (by rw [ints_length]; omega) hr (ints_one L) (by unfold maxLen; omega) (by omega) hbase
  have fin : ∀ (v' : Value) (w' : World), w'.ownsRow base 3 1 v' (M.length + L.length) (ints M ++ ints L) → w'.ownsRow base 3 1 v' (M ++ L).length (ints (M ++ L)) := fun v' w' h => by
    rw [List.length_append, show ints (M ++ L) = ints M ++ ints L by simp [ints]]; exact h
  cases oo with
  | some ad =>
    have hr : ∀ j u, (ints L)[j]? = some u → w.cell? (ad.add j) = some u := fun j u hj => by
      have hjl : j < L.length := by have := (List.getElem?_eq_some_iff.1 hj).1; rwa [ints_length] at this
      obtain ⟨g, off, z, e, hz, hcell⟩ := hc j hjl
      cases e
      rw [ad_add]
      rw [show (ints L)[j]? = some (.int .i64 z) by simp [ints, hz]] at hj
      cases hj
      exact hcell
    obtain ⟨v', w', h1, h2, h3, _⟩ := go ad rfl hr
    exact ⟨v', w', h1, fin v' w' h2, h3⟩
  | none =>
    have hL : L = [] := by
      cases L with
      | nil => rfl
      | cons z r => obtain ⟨g, off, _, e, _⟩ := hc 0 (by simp); cases e
    subst hL
    refine ⟨v, w, ?_, by simpa using hown, below_grown (Below.refl _ _) _⟩
    intro o ho hty
    have hrun := none_run (P := Try.prog) (w := w) base 24 24 3 i0 1 Try.underlying24 hii v M.length cap (ints M) hown
    unfold execOp
    simp only [List.length_nil] at hx
    simp only [ho, hty, resolve, invoke, builtin, Sem.run_bind, Sem.run_pure, Result.andThen_ok, List.map_toArray, List.map_cons, List.map_nil, hs, hx, hrun]
/-- Two appends, one behind the other, and the list handed on. -/
def AT (p q z : Nat) (w0 W : World) (A B : List Int) (γ : Nat → Value) (L : Nat → Bool) (w : World) : Prop :=
  ((L p = false ∧ L q = false ∧ Below W.heap.size W w) ∨ (L p = true ∧ L q = false ∧ IOwn w0 w (γ p) A) ∨ (L q = true ∧ IOwn w0 w (γ q) (A ++ B))) ∧ (L z = true → γ z = γ q)
section
variable {p q z : Nat} {w0 W : World} {A B : List Int} {γ : Nat → Value} {L : Nat → Bool} {w : World}
theorem AT.start (hp : L p = false) (hq : L q = false) (hz : L z = false) (hb : Below W.heap.size W w) : AT p q z w0 W A B γ L w := ⟨Or.inl ⟨hp, hq, hb⟩, fun e => by rw [hz] at e; cases e⟩
theorem AT.other (h : AT p q z w0 W A B γ L w) {i : Nat} (v : Value) (hp : p ≠ i) (hq : q ≠ i) (hz : z ≠ i) : AT p q z w0 W A B (RV.upd γ i v) (more L i) w := by
  unfold AT
  rw [RV.more_ne hp, RV.more_ne hq, RV.more_ne hz, RV.upd_ne _ _ hp, RV.upd_ne _ _ hq, RV.upd_ne _ _ hz]
  exact h
theorem AT.early (h : AT p q z w0 W A B γ L w) (hp : L p = false) (hq : L q = false) : Below W.heap.size W w := by
  rcases h.1 with h | h | h
  · exact h.2.2
  · rw [hp] at h; cases h.1
  · rw [hq] at h; cases h.1
theorem AT.mid (h : AT p q z w0 W A B γ L w) (hp : L p = true) (hq : L q = false) : IOwn w0 w (γ p) A := by
  rcases h.1 with h | h | h
  · rw [hp] at h; cases h.1
  · exact h.2.2
  · rw [hq] at h; cases h.1
theorem AT.one {w' : World} {v' : Value} (hq : L q = false) (hz : L z = false) (nqp : q ≠ p) (nzp : z ≠ p) (hr : IOwn w0 w' v' A) : AT p q z w0 W A B (RV.upd γ p v') (more L p) w' :=
  ⟨Or.inr (Or.inl ⟨RV.more_self, by rw [RV.more_ne nqp]; exact hq, by rw [RV.upd_self]; exact hr⟩), fun e => by rw [RV.more_ne nzp, hz] at e; cases e⟩
theorem AT.two {w' : World} {v' : Value} (hz : L z = false) (nzq : z ≠ q) (hr : IOwn w0 w' v' (A ++ B)) : AT p q z w0 W A B (RV.upd γ q v') (more L q) w' :=
  ⟨Or.inr (Or.inr ⟨RV.more_self, by rw [RV.upd_self]; exact hr⟩), fun e => by rw [RV.more_ne nzq, hz] at e; cases e⟩
theorem AT.set (h : AT p q z w0 W A B γ L w) (nqz : q ≠ z) (npz : p ≠ z) : AT p q z w0 W A B (RV.upd γ z (γ q)) (more L z) w := by
  refine ⟨?_, fun _ => by rw [RV.upd_self, RV.upd_ne _ _ nqz]⟩
  rw [RV.more_ne nqz, RV.more_ne npz, RV.upd_ne _ _ nqz, RV.upd_ne _ _ npz]
  exact h.1
theorem AT.done (h : AT p q z w0 W A B γ L w) (hq : L q = true) (hz : L z = true) : γ z = γ q ∧ IOwn w0 w (γ q) (A ++ B) := by
  rcases h.1 with h9 | h9 | h9
  · rw [hq] at h9; cases h9.2.1
  · rw [hq] at h9; cases h9.2.1
  · exact ⟨h.2 hz, h9.2⟩
end
theorem IOwn.apps {w A B : World} {u u' : Value} {M N : List Int} (h : IOwn w A u M) (hr : B.ownsRow w.heap.size 3 1 u' (M ++ N).length (ints (M ++ N))) (hg : A.grownBy B u.ownBlock) : IOwn w B u' (M ++ N) :=
  ⟨hr, h.below.grown hg h.below.size (fun k e => (h.row.lt k e).1)⟩
end Go.Proofs.Ytdbiikllcplmgaa
