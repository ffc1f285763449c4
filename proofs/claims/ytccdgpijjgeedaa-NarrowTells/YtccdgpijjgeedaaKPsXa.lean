/- Lists of points that are appended whole. -/
import Derived.Test.YtccdgpijjgeedaaKSMath
import Derived.Laws.OwnMore
import Derived.Maps.AppendAt
namespace Go.Proofs.Ytccdgpijjgeedaa
open Go.RowKit Go.Shelf
set_option linter.unusedVariables false

theorem rowp_form {W : World} {base : Nat} {u : Value} {n : Nat} {xs : List Value} (h : W.ownsRow base 26 3 u n xs) : ∃ o c, u = .slice o n c := by
  rcases h.2 with ⟨rfl, h0⟩ | ⟨g, cap, cur, rfl, _⟩
  · exact ⟨none, 0, by rw [h0]⟩
  · exact ⟨_, _, rfl⟩
theorem pts_read {w : World} {g off n c : Nat} {L : List Pt} (h : Lies w (.slice (some ⟨g, off, none⟩) n c) L) : ∀ j u, (fl3 L)[j]? = some u → w.cell? ((⟨g, off, none⟩ : Addr).add j) = some u := by
  intro j u hj
  obtain ⟨o, cap, e, _, _, hc⟩ := h.form
  simp only [Value.slice.injEq] at e
  obtain ⟨rfl, rfl, rfl⟩ := e
  have hl : j < L.length * 3 := by have := (List.getElem?_eq_some_iff.1 hj).1; rwa [fl3_length] at this
  have hi : j / 3 < L.length := by omega
  obtain ⟨g', off', e', x0, x1, x2⟩ := hc (j / 3) hi
  cases e'
  obtain ⟨f0, f1, f2⟩ := fl3_at L (j / 3) hi
  have ej : j = j / 3 * 3 ∨ j = j / 3 * 3 + 1 ∨ j = j / 3 * 3 + 2 := by omega
  have ad : (⟨g, off, none⟩ : Addr).add j = ⟨g, off + j, none⟩ := by unfold Addr.add; split <;> simp_all
  rw [ad]
  rcases ej with e | e | e
  · rw [e] at hj ⊢; rw [f0] at hj; rw [← hj]; exact x0
  · rw [e] at hj ⊢; rw [f1] at hj; rw [← hj]; rw [← Nat.add_assoc]; exact x1
  · rw [e] at hj ⊢; rw [f2] at hj; rw [← hj]; rw [← Nat.add_assoc]; exact x2
theorem none_run {P : Program} {w : World} (base : Nat) (t ty e : TypeId) (i : TypeInfo) (size : Nat) (ht : P.underlying t = some (.slice e)) (hi : P.info? e = some i) (v : Value) (n c : Nat) (xs : List Value) (hown : w.ownsRow base e size v n xs) :
    (Builtin.append_ #[t, t] ty #[v, .slice none 0 c]).run P w = .ok v w := by
  rcases hown.2 with ⟨rfl, rfl⟩ | ⟨g, cap, cur, rfl, _, _, hnc, _⟩
  · simp [Builtin.append_, run_underlying ht, sizeOf, typeInfo, hi, Builtin.lenOf, Builtin.firstCells]
  · simp [Builtin.append_, run_underlying ht, sizeOf, typeInfo, hi, Builtin.lenOf, Builtin.firstCells, hnc, storeCells]
/-- A list is appended whole to one that is one's own. -/
theorem append_lies {w : World} {ops : Array Oper} {rest : List Oper} {o : Oper} {a : Act} {Q : Exit → Act → World → Prop} (hgd : o.guard = none) (s x : Operand)
    (ho : o.op = .call { callee := .builtin .append, args := #[s, x], argTypes := #[22, 22] })
    (base : Nat) (v : Value) (M : List Pt) (hs : a.eval s = v) (hown : w.ownsRow base 26 3 v M.length (fl3 M)) (xv : Value) (L : List Pt) (hx : a.eval x = xv) (hl : Lies w xv L)
    (hN : M.length + L.length < 2199023255552) (hbase : base ≤ w.heap.size)
    (h : ∀ v' w', w'.ownsRow base 26 3 v' (M ++ L).length (fl3 (M ++ L)) → w.grownBy w' v.ownBlock → (v'.ownBlock = v.ownBlock ∨ v'.ownBlock = some w.heap.size) → wpList Try.prog ops Q rest (a.put o.dst v') w') :
    wpList Try.prog ops Q (o :: rest) a w := by
  obtain ⟨i0, hii, hiz, hisz, hib⟩ := info_parts point_info
  obtain ⟨oo, cap, rfl, hlc, hcm, hc⟩ := hl.form
  rcases Nat.eq_zero_or_pos L.length with h0 | h0
  · have hL : L = [] := List.length_eq_zero_iff.1 h0
    subst hL
    cases oo with
    | none =>
      refine wpList_plain hgd fun K hK => ?_
      have hrun := none_run (P := Try.prog) (w := w) base 22 o.type 26 i0 3 Try.underlying22 hii v M.length cap (fl3 M) hown
      unfold Oper.wp
      simp [execOp, ho, resolve, invoke, builtin, hs, hx, hrun, Result.andThen]
      refine hK _ _ (h v w ?_ (below_grown (Below.refl _ _) _) (Or.inl rfl))
      rw [List.append_nil]; exact hown
    | some ad =>
      refine wpList_append_own_at w hgd s x _ ho base 26 i0 _ 3 24 Try.underlying22 hii hiz hisz hib rfl (by decide) v M.length (fl3 M) hs hown ad 0 cap [] hx rfl (fun j u e => by simp at e) (fun u e => by simp at e) (by unfold maxLen; omega) (by omega) hbase ?_
      intro v' w' r8 g8 _ s8
      refine h v' w' ?_ g8 s8
      rw [List.append_nil]; simpa using r8
  · obtain ⟨g, off, rfl, _⟩ := hc 0 h0
    refine wpList_append_own_at w hgd s x _ ho base 26 i0 _ 3 24 Try.underlying22 hii hiz hisz hib rfl (by decide) v M.length (fl3 M) hs hown ⟨g, off, none⟩ L.length cap (fl3 L) hx (fl3_length L) (pts_read hl) (fl3_one _) (by unfold maxLen; omega) (by omega) hbase ?_
    intro v' w' r8 g8 _ s8
    refine h v' w' ?_ g8 s8
    rw [fl3_append, List.length_append]; exact r8
end Go.Proofs.Ytccdgpijjgeedaa
