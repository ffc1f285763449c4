/- Lists of events of one's own, that may begin anywhere in their row; append, whole; cut at the front. -/
import Derived.Test.YtbbmjfaflcbimaaEvE
import Derived.Deep.AppendSrc
import Derived.Laws.IdiomCopy
import Derived.Deep.MidRow
namespace Go.Proofs.Ytbbmjfaflcbimaa
open Go.RowKit Go.Shelf
set_option linter.unusedVariables false

structure OA (W : World) (base : Nat) (v : Value) (L : List Ev) : Prop where
  form : (v = .slice none 0 0 ∧ L = []) ∨ ∃ g off cap, v = .slice (some ⟨g, off, none⟩) L.length cap ∧ base ≤ g ∧ g < W.heap.size ∧ L.length ≤ cap ∧ cap ≤ maxLen ∧ (∀ j u, (evs L)[j]? = some u → W.cell? ⟨g, off + j, none⟩ = some u) ∧ (∀ j, j < cap * 3 → (W.cell? ⟨g, off + j, none⟩).isSome = true) ∧ ∀ o, W.frozen? ⟨g, o, none⟩ = false
theorem OA.nil (W : World) (base : Nat) : OA W base (.slice none 0 0) [] := ⟨Or.inl ⟨rfl, rfl⟩⟩
theorem OA.len {W : World} {base : Nat} {v : Value} {L : List Ev} (h : OA W base v L) : ∃ o cap, v = .slice o L.length cap ∧ L.length ≤ cap ∧ L.length ≤ maxLen := by
  rcases h.form with ⟨rfl, rfl⟩ | ⟨g, off, cap, rfl, _, _, h3, h4, _⟩
  · exact ⟨none, 0, rfl, Nat.le_refl _, Nat.zero_le _⟩
  · exact ⟨_, cap, rfl, h3, Nat.le_trans h3 h4⟩
theorem OA.lt {W : World} {base : Nat} {v : Value} {L : List Ev} (h : OA W base v L) : ∀ k, v.ownBlock = some k → base ≤ k ∧ k < W.heap.size := by
  intro k e
  rcases h.form with ⟨rfl, rfl⟩ | ⟨g, off, cap, rfl, h1, h2, _⟩
  · cases e
  · have : g = k := by simpa [Value.ownBlock] using e
    subst this
    exact ⟨h1, h2⟩
theorem OA.keep {w W : World} {base : Nat} {v : Value} {L : List Ev} (h : OA w base v L) (hs : w.heap.size ≤ W.heap.size) (hk : ∀ k, v.ownBlock = some k → W.heap[k]? = w.heap[k]?) : OA W base v L := by
  refine ⟨?_⟩
  rcases h.form with a | ⟨g, off, cap, rfl, h1, h2, h3, h4, h5, h6, h7⟩
  · exact Or.inl a
  · have e := hk g rfl
    exact Or.inr ⟨g, off, cap, rfl, h1, Nat.lt_of_lt_of_le h2 hs, h3, h4, fun j u hu => (World.cell?_of_block (a := ⟨g, off + j, none⟩) e).trans (h5 j u hu), fun j hj => by rw [World.cell?_of_block (a := ⟨g, off + j, none⟩) e]; exact h6 j hj, fun o => (World.frozen?_of_block (a := ⟨g, o, none⟩) e).trans (h7 o)⟩
theorem OA.below {w W : World} {base : Nat} {v : Value} {L : List Ev} (h : OA w base v L) (hb : Below w.heap.size w W) : OA W base v L := h.keep hb.size (fun k e => hb.block k (h.lt k e).2)
theorem OA.two {w W : World} {base p q : Nat} {v : Value} {L : List Ev} (h : OA w base v L) (hb : Two2 w W p q) (h1 : v.ownBlock ≠ some p) (h2 : v.ownBlock ≠ some q) : OA W base v L := h.keep hb.size (fun k e => hb.block k (h.lt k e).2 (fun x => h1 (by rw [e, x])) (fun x => h2 (by rw [e, x])))
theorem OA.mono {W : World} {base base' : Nat} {v : Value} {L : List Ev} (h : OA W base v L) (hb : base' ≤ base) : OA W base' v L := by
  refine ⟨?_⟩
  rcases h.form with a | ⟨g, off, cap, rfl, h1, h2⟩
  · exact Or.inl a
  · exact Or.inr ⟨g, off, cap, rfl, Nat.le_trans hb h1, h2⟩
theorem OA.lies {W : World} {base : Nat} {v : Value} {L : List Ev} (h : OA W base v L) : LiesE W v L := by
  rcases h.form with ⟨rfl, rfl⟩ | ⟨g, off, cap, rfl, h1, h2, h3, h4, h5, h6, h7⟩
  · exact LiesE.nil W
  · refine ⟨_, cap, rfl, h3, by unfold maxLen at h4; omega, fun i hi => ⟨g, off, rfl, ?_⟩⟩
    obtain ⟨a, b, c⟩ := evs_at L i hi
    exact ⟨h5 _ _ a, by rw [Nat.add_assoc]; exact h5 _ _ b, by rw [Nat.add_assoc]; exact h5 _ _ c⟩
/-- The first one is cut off. -/
theorem OA.tail {W : World} {base g off cap : Nat} {n : Nat} {x : Ev} {L : List Ev} (h : OA W base (.slice (some ⟨g, off, none⟩) n cap) (x :: L)) : n = L.length + 1 ∧ L.length + 1 ≤ cap ∧ OA W base (.slice (some ⟨g, off + 3, none⟩) L.length (cap - 1)) L ∧ (cap = 1 → OA W base (.slice (some ⟨g, off, none⟩) L.length 0) L) := by
  rcases h.form with ⟨e, _⟩ | ⟨g', off', cap', e, h1, h2, h3, h4, h5, h6, h7⟩
  · cases e
  · injection e with e1 e2 e3
    injection e1 with e1; injection e1 with e1 e4
    subst e1; subst e3; subst e4
    rw [List.length_cons] at e2 h3
    refine ⟨e2, h3, ⟨Or.inr ⟨g, off + 3, cap - 1, rfl, h1, h2, by omega, by omega, fun j u hu => ?_, fun j hj => ?_, h7⟩⟩, fun ec => ⟨Or.inr ⟨g, off, 0, rfl, h1, h2, by omega, by omega, fun j u hu => ?_, fun j hj => by omega, h7⟩⟩⟩
    · rw [Nat.add_assoc, Nat.add_comm 3 j]
      exact h5 (j + 3) u (by simpa [evs] using hu)
    · rw [Nat.add_assoc]
      exact h6 (3 + j) (by omega)
    · have : L = [] := List.eq_nil_of_length_eq_zero (by omega)
      subst this
      simp [evs] at hu
theorem OA.of_row {W : World} {base : Nat} {v : Value} {L : List Ev} (h : W.ownsRow base 37 3 v L.length (evs L)) : OA W base v L := by
  refine ⟨?_⟩
  have hat : ∀ g cap, v = .slice (some ⟨g, 0, none⟩) L.length cap → ∀ j u, (evs L)[j]? = some u → W.cell? ⟨g, 0 + j, none⟩ = some u := fun g cap e j u hu => by
    subst e
    rw [Nat.zero_add]
    have hl := (List.getElem?_eq_some_iff.1 hu).1
    rw [evs_length] at hl
    exact (h.cellAt j hl).trans hu
  rcases h.2 with ⟨rfl, h0⟩ | ⟨g, cap, cur, rfl, hb, hg, h1, h2, h3, h4⟩
  · exact Or.inl ⟨rfl, List.eq_nil_of_length_eq_zero h0⟩
  · exact Or.inr ⟨g, 0, cap, rfl, hb, (Array.getElem?_eq_some_iff.1 hg).1, h1, h2, hat g cap rfl, fun j hj => by rw [Nat.zero_add]; simp [World.cell?, hg, h3, hj], fun o => by simp [World.frozen?, hg]⟩
theorem src_of {w : World} {xv : Value} {L : List Ev} (hl : LiesE w xv L) : Src Try.prog 3 31 xv L.length (evs L) w := by
  obtain ⟨o, cap, rfl, h1, h2, h3⟩ := hl.form
  cases o with
  | none =>
    have : L = [] := by
      rcases Nat.eq_zero_or_pos L.length with h0 | h0
      · exact List.eq_nil_of_length_eq_zero h0
      · obtain ⟨g, off, e, _⟩ := h3 0 h0
        cases e
    subst this
    exact Src.ofNil w Try.underlying31 cap
  | some ad =>
    refine Src.ofSlice w Try.underlying31 ad L.length cap (evs L) (evs_length L) (fun j u hu => ?_) (evs_one L)
    have hj : j < L.length * 3 := by rw [← evs_length]; exact (List.getElem?_eq_some_iff.1 hu).1
    obtain ⟨g, off, e, _⟩ := h3 (j / 3) (by omega)
    injection e with e
    subst e
    exact hl.cells.2 j u hu
theorem zsets_grown : ∀ (vs : List Value) (o b : Nat) (w : World), w.grownBy (w.setCells b o vs) (some b)
  | [], o, b, w => z_grown (Below.refl _ w) _
  | v :: r, o, b, w => by
    have h1 : w.grownBy (w.setCell ⟨b, o, none⟩ v) (some b) := ⟨rfl, rfl, rfl, by simp [World.setCell], fun k _ hk => Below.heap_setCell _ _ _ k (fun e => hk (by rw [e]))⟩
    have h2 := zsets_grown r (o + 1) b (w.setCell ⟨b, o, none⟩ v)
    exact ⟨h2.os.trans h1.os, h2.tape.trans h1.tape, h2.output.trans h1.output, Nat.le_trans h1.size h2.size, fun i hi hn => (h2.block i (Nat.lt_of_lt_of_le hi h1.size) hn).trans (h1.block i hi hn)⟩
/-- append of a whole list onto one's own. -/
theorem run_eapp {w : World} {ty : TypeId} {base : Nat} {v xv : Value} {M L : List Ev} (h : OA w base v M) (hl : LiesE w xv L) (hN : M.length + L.length < 1099511627776) (hbase : base ≤ w.heap.size) :
    ∃ v' w', (Builtin.append_ #[31, 31] ty #[v, xv]).run Try.prog w = .ok v' w' ∧ OA w' base v' (M ++ L) ∧ w.grownBy w' v.ownBlock ∧ (v'.ownBlock = v.ownBlock ∨ v'.ownBlock = some w.heap.size) := by
  obtain ⟨i0, hii, hiz, hisz, hib⟩ := info_parts ev_info
  have hs := src_of hl
  rw [← hisz] at hs
  have big : ∀ (ao : Option Addr) (cap : Nat), v = .slice ao M.length cap → cap < M.length + L.length → (Builtin.firstCells i0.size M.length (.slice ao M.length cap)).run Try.prog w.drew = .ok (evs M).toArray w.drew →
      ∃ v' w', (Builtin.append_ #[31, 31] ty #[v, xv]).run Try.prog w = .ok v' w' ∧ OA w' base v' (M ++ L) ∧ w.grownBy w' v.ownBlock ∧ (v'.ownBlock = v.ownBlock ∨ v'.ownBlock = some w.heap.size) := by
    intro ao cap ev hc hold
    subst ev
    have hr := run_append_grow_src (P := Try.prog) w 31 31 ty 37 i0 _ Try.underlying31 hii hiz ao M.length cap (evs M) hold xv L.length (evs L) hs hc (by omega) (by rw [hib]; exact growslice_fits hc (by omega))
    have hge := grownCap_ge w (M.length + L.length) cap 37
    have hcm : grownCap w (M.length + L.length) cap 37 ≤ maxLen := grownCap_le_maxLen w _ cap 37 (by unfold maxLen; omega)
    refine ⟨_, _, hr, ⟨Or.inr ⟨w.heap.size, 0, _, by rw [List.length_append], hbase, by simp, by rw [List.length_append]; exact hge, hcm, fun j u hu => ?_, fun j hj => ?_, fun o => ?_⟩⟩, ⟨rfl, rfl, rfl, by simp, fun k hk _ => heap_alloc_old w.drew _ k hk⟩, Or.inr rfl⟩
    · rw [Nat.zero_add, cell_of_row _ w.heap.size j _ _ _ (heap_alloc_new w.drew _)]
      have hl2 : j < (evs M ++ evs L).length := by rw [← evs_append]; exact (List.getElem?_eq_some_iff.1 hu).1
      rw [evs_append] at hu
      rw [Array.getElem?_append_left (by simpa using hl2), List.getElem?_toArray]
      exact hu
    · rw [Nat.zero_add, cell_of_row _ w.heap.size j _ _ _ (heap_alloc_new w.drew _)]
      have hz3 : (Value.agg #[.int .i64 0, .int .i64 0, .int .i64 0]).cells.size = 3 := rfl
      rw [Array.getElem?_eq_getElem]
      · rfl
      · simp only [Array.size_append, List.size_toArray, List.length_append, evs_length, size_zeroCells, hz3]
        omega
    · have hn := heap_alloc_new w.drew (.cells ((evs M ++ evs L).toArray ++ Builtin.zeroCells (Value.agg #[.int .i64 0, .int .i64 0, .int .i64 0]).cells (grownCap w (M.length + L.length) cap 37 - (M.length + L.length))) 37)
      have hn : (w.drew.alloc (.cells ((evs M ++ evs L).toArray ++ Builtin.zeroCells (Value.agg #[.int .i64 0, .int .i64 0, .int .i64 0]).cells (grownCap w (M.length + L.length) cap 37 - (M.length + L.length))) 37)).heap[w.heap.size]? = _ := hn
      unfold World.frozen?
      rw [hn]
      simp
  rcases h.form with ⟨rfl, rfl⟩ | ⟨g, off, cap, rfl, h1, h2, h3, h4, h5, h6, h7⟩
  · rcases Nat.eq_zero_or_pos L.length with h0 | h0
    · have : L = [] := List.eq_nil_of_length_eq_zero h0
      subst this
      obtain ⟨o, cp, rfl, _, _⟩ := hl.form
      refine ⟨.slice none 0 0, w, ?_, OA.nil w base, z_grown (Below.refl _ w) _, Or.inl rfl⟩
      cases o <;> simp [Builtin.append_, run_underlying Try.underlying31, sizeOf, typeInfo, hii, Builtin.lenOf, Builtin.firstCells, loadCells, loadCellsFrom]
    · exact big none 0 rfl (by simpa using h0) (by simp [Builtin.firstCells, evs])
  · by_cases hr : M.length + L.length ≤ cap
    · have hsz : i0.size = 3 := hisz
      have hrun := run_append_room_src (P := Try.prog) w 31 31 ty 37 i0 Try.underlying31 hii g off M.length cap xv L.length (evs L) hs hr
        (fun j hj => by rw [hsz, Nat.add_assoc]; rw [evs_length] at hj; exact h6 _ (by omega)) (fun j hj => h7 _)
      rw [hsz] at hrun
      have hth : ∀ j, j < (evs L).length → (w.cell? ⟨g, off + M.length * 3 + j, none⟩).isSome = true := fun j hj => by rw [Nat.add_assoc]; rw [evs_length] at hj; exact h6 _ (by omega)
      refine ⟨_, _, hrun, ⟨Or.inr ⟨g, off, cap, by rw [List.length_append], h1, ?_, by rw [List.length_append]; exact hr, h4, fun j u hu => ?_, fun j hj => ?_, fun o => by rw [World.frozen?_setCells]; exact h7 o⟩⟩, zsets_grown _ _ _ _, Or.inl rfl⟩
      · exact Nat.lt_of_lt_of_le h2 (zsets_grown (evs L) (off + M.length * 3) g w).size
      · rw [evs_append] at hu
        by_cases hj : j < M.length * 3
        · rw [World.cell?_setCells_out g (evs L) (off + M.length * 3) w ⟨g, off + j, none⟩ (fun _ _ => Or.inl (by simp; omega))]
          rw [List.getElem?_append_left (by rw [evs_length]; exact hj)] at hu
          exact h5 j u hu
        · rw [List.getElem?_append_right (by rw [evs_length]; omega), evs_length] at hu
          have hjl := (List.getElem?_eq_some_iff.1 hu).1
          have := World.cell?_setCells_in g (evs L) (off + M.length * 3) w hth (j - M.length * 3) hjl
          rw [show off + M.length * 3 + (j - M.length * 3) = off + j by omega] at this
          rw [this, ← hu, List.getElem?_eq_getElem hjl]
      · exact World.isSome_setCells g (evs L) (off + M.length * 3) w ⟨g, off + j, none⟩ (h6 j hj)
    · refine big _ cap rfl (by omega) ?_
      rw [hisz]
      exact run_firstCells_some w.drew 3 M.length ⟨g, off, none⟩ M.length cap (evs M) (evs_length M) (fun j u hu => by rw [z_add]; simpa using h5 j u hu)
/-- At an operation. -/
theorem eapp {w : World} {ops : Array Oper} {rest : List Oper} {o : Oper} {a : Act} {Q : Exit → Act → World → Prop} (hgd : o.guard = none) (s x : Operand)
    (ho : o.op = .call { callee := .builtin .append, args := #[s, x], argTypes := #[31, 31] })
    (base : Nat) (v : Value) (M : List Ev) (hs : a.eval s = v) (h : OA w base v M) (xv : Value) (L : List Ev) (hx : a.eval x = xv) (hl : LiesE w xv L)
    (hN : M.length + L.length < 1099511627776) (hbase : base ≤ w.heap.size)
    (hk : ∀ v' w', OA w' base v' (M ++ L) → w.grownBy w' v.ownBlock → (v'.ownBlock = v.ownBlock ∨ v'.ownBlock = some w.heap.size) → wpList Try.prog ops Q rest (a.put o.dst v') w') :
    wpList Try.prog ops Q (o :: rest) a w := by
  obtain ⟨v', w', hr, h2, h3, h4⟩ := run_eapp (ty := o.type) h hl hN hbase
  refine wpList_plain hgd fun K hK => ?_
  unfold Oper.wp
  simp [execOp, ho, resolve, invoke, builtin, hs, hx, hr, Result.andThen]
  exact hK _ _ (hk v' w' h2 h3 h4)
end Go.Proofs.Ytbbmjfaflcbimaa
