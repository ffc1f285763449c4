/- What a pool tells can be laid into another one, handle by handle, and both know nothing of one another: true for all scripts. -/
import Derived.Test.YtchkepakbflmhaaSteps
import Derived.RangeFuncBox
namespace Go.Proofs.Ytchkepakbflmhaa
namespace poolLays
open Go.ChangeShapes Go.WideShapes Go.ChangeAt Go.RowKit Go.Shelf
set_option linter.unusedVariables false

theorem own : ownKnob Try.prog.godebug = none := by kernel_rfl
theorem laidOut : laidOutB Try.prog = true := by kernel_rfl
theorem info_h : (Try.prog.info? 36).map (fun i => (i.zero, i.size, i.bytes)) = some (some (.int .i64 0), 1, 8) := by kernel_rfl
theorem pick_any (c n : Int) (w : World) (h0 : -9223372036854775808 ≤ c) (h1 : c ≤ 9223372036854775807) (hn : 0 < n) (hn' : n ≤ 9223372036854775807) :
    Calls Try.prog 10 #[.int .i64 c, .int .i64 n] w fun e w' => ∃ r : Int, e = .returned (.int .i64 r) ∧ 0 ≤ r ∧ r < n ∧ w' = w := by
  by_cases hc : c < 0
  · have hb : 0 ≤ -(c + 1) := by omega
    have hb' : -(c + 1) ≤ 9223372036854775807 := by omega
    have hz : (n == 0) = false := beq_eq_false_iff_ne.2 (by omega)
    go_enter Try.func10, Try.ntmps10
    go_wp2
    go_ret
    have e : (c + 1).tmod n = -(-(c + 1) % n) := by
      rw [← Int.tmod_eq_emod_of_nonneg hb, Int.neg_tmod, Int.neg_neg]
    have m0 := Int.emod_nonneg (-(c + 1)) (show n ≠ 0 by omega)
    have m1 := Int.emod_lt_of_pos (-(c + 1)) hn
    exact ⟨_, rfl, by rw [e]; omega, by rw [e]; omega, rfl⟩
  · have hz : (n == 0) = false := beq_eq_false_iff_ne.2 (by omega)
    go_enter Try.func10, Try.ntmps10
    go_wp2
    go_ret
    exact ⟨_, rfl, Int.emod_nonneg _ (by omega), Int.emod_lt_of_pos _ hn, rfl⟩

/-- A slice that owns what it holds. -/
def Owns (W : World) (base : Nat) (e : TypeId) (v : Value) (xs : List Value) : Prop := W.ownsRow base e 1 v xs.length xs
theorem Owns.nil (W : World) (base : Nat) (e : TypeId) : Owns W base e (.slice none 0 0) [] := World.ownsRow_nil W base e 1
theorem Owns.kept {W W' : World} {base : Nat} {e : TypeId} {v : Value} {xs : List Value} {row : Option Nat} (h : Owns W base e v xs) (hg : W.grownBy W' row) (hr : ∀ r, row = some r → r < base ∨ W.heap.size ≤ r) : Owns W' base e v xs := by
  refine World.ownsRow.kept h hg ?_
  cases hv : v.ownBlock with
  | none => exact Or.inl rfl
  | some g =>
    refine Or.inr fun e' => ?_
    obtain ⟨h1, h2⟩ := World.ownsRow.lt h g hv
    rcases hr g e'.symm with h3 | h3 <;> omega
theorem Owns.far {W W' : World} {base base' : Nat} {e e' : TypeId} {v v' : Value} {xs xs' : List Value} (h : Owns W base e v xs) (h' : Owns W base' e' v' xs') (hne : e ≠ e') (hg : W.grownBy W' v'.ownBlock) : Owns W' base e v xs := by
  refine World.ownsRow.kept h hg ?_
  cases hv : v.ownBlock with
  | none => exact Or.inl rfl
  | some g =>
    refine Or.inr fun e1 => ?_
    rcases h.2 with ⟨rfl, _⟩ | ⟨g1, cap, cur, rfl, _, hg1, _⟩
    · simp [Value.ownBlock] at hv
    · rcases h'.2 with ⟨rfl, _⟩ | ⟨g2, cap2, cur2, rfl, _, hg2, _⟩
      · simp [Value.ownBlock] at e1
      · simp only [Value.ownBlock, Option.some.injEq] at hv e1
        subst hv
        subst e1
        rw [hg1] at hg2
        cases hg2
        exact hne rfl
theorem Owns.below {W W' : World} {base : Nat} {e : TypeId} {v : Value} {xs : List Value} (h : Owns W base e v xs) (hb : Below W.heap.size W W') : Owns W' base e v xs := h.kept (row := none) (below_grown hb none) (fun r e => by cases e)
/-- A slice that owns something is written out. -/
theorem Owns.form {W : World} {base : Nat} {e : TypeId} {v : Value} {xs : List Value} (h : Owns W base e v xs) : ∃ (a : Option Addr) (cap : Nat), v = .slice a xs.length cap ∧ xs.length ≤ cap ∧ (0 < xs.length → ∃ g, a = some ⟨g, 0, none⟩ ∧ base ≤ g ∧ g < W.heap.size ∧ (∀ j, j < xs.length → W.cell? ⟨g, j, none⟩ = xs[j]?) ∧ (∀ j, W.frozen? ⟨g, j, none⟩ = false)) := by
  rcases h.2 with ⟨rfl, h0⟩ | ⟨g, cap, cur, rfl, hb, hg, hnc, _⟩
  · exact ⟨none, 0, by rw [h0], by omega, fun h1 => by omega⟩
  · refine ⟨_, cap, rfl, hnc, fun _ => ⟨g, rfl, hb, (Array.getElem?_eq_some_iff.1 hg).1, fun j hj => World.ownsRow.cellAt h j (by simpa using hj), fun j => World.ownsRow.frozenAt h j⟩⟩
theorem Owns.at {W : World} {base : Nat} {e : TypeId} {a : Option Addr} {n cap : Nat} {xs : List Value} (h : Owns W base e (.slice a n cap) xs) (m : Nat) (hm : xs.length = m) : 0 < m → ∃ g, a = some ⟨g, 0, none⟩ ∧ base ≤ g ∧ g < W.heap.size ∧ (∀ j, j < m → W.cell? ⟨g, j, none⟩ = xs[j]?) ∧ (∀ j, W.frozen? ⟨g, j, none⟩ = false) := by
  subst hm
  obtain ⟨a', cap', e', _, hf⟩ := h.form
  injection e' with e1 e2 e3
  subst e1
  exact hf
theorem map_int {l : List Int} {k : Nat} (h : k < l.length) : (l.map (Value.int .i64))[k]? = some (.int .i64 (l[k]?.getD 0)) := by simp [h]
theorem map_bool {l : List Bool} {k : Nat} (h : k < l.length) : (l.map Value.bool)[k]? = some (.bool (l[k]?.getD false)) := by simp [h]
theorem ret_bool {x y : Bool} (h : x = y) : Ending.returned (.bool x) = .returned (.bool y) := by rw [h]

/-- Two pools, a slice of handles, boxes, marks. -/
structure Sy (w V : World) (S bq base pp pl qq ql : Nat) (Ds : List Nat) (L M : List Pl) (v : Value) (H : List Int) : Prop where
  p : IsPool V pp pl L
  q : IsPool V qq ql M
  o : Owns V base 36 v (H.map (.int .i64))
  r : Boxed V S 4 (.bool false)
  b : Boxed V bq 24 (.pointer (some ⟨qq, 0, none⟩))
  below : Below w.heap.size w V
  bs : base ≤ V.heap.size
  hs : ∀ h ∈ H, 0 ≤ h ∧ h ≤ 1000000000000000
  marks : ∀ D ∈ Ds, base ≤ D ∧ V.heap[D]? = some (.deferred (some []))
  o1 : w.heap.size ≤ S ∧ S < pl ∧ S < pp ∧ S < ql ∧ S < qq ∧ S < bq
  o2 : pl < base ∧ pp < base ∧ ql < base ∧ qq < base ∧ bq < base
  o3 : pl ≠ ql ∧ pl ≠ qq ∧ pp ≠ ql ∧ pl ≠ bq ∧ ql ≠ bq
/-- A step that turns one block that is none of theirs. -/
theorem Sy.other {w V V2 : World} {S bq base pp pl qq ql : Nat} {Ds : List Nat} {L M : List Pl} {v : Value} {H : List Int} (h : Sy w V S bq base pp pl qq ql Ds L M v H) {row : Option Nat} (hg : V.grownBy V2 row)
    (hr : ∀ x, row = some x → base ≤ x ∧ some x ≠ v.ownBlock ∧ x ∉ Ds) : Sy w V2 S bq base pp pl qq ql Ds L M v H := by
  have a := h.o1
  have b := h.o2
  refine ⟨h.p.grown hg (fun e => by have := (hr _ e.symm).1; omega) (fun e => by have := (hr _ e.symm).1; omega), h.q.grown hg (fun e => by have := (hr _ e.symm).1; omega) (fun e => by have := (hr _ e.symm).1; omega), ?_, h.r.kept hg (fun e => by have := (hr _ e.symm).1; omega), h.b.kept hg (fun e => by have := (hr _ e.symm).1; omega), h.below.grown hg h.below.size (fun k e => by have := (hr _ e).1; omega), Nat.le_trans h.bs hg.size, h.hs, fun D hD => ⟨(h.marks D hD).1, ?_⟩, h.o1, h.o2, h.o3⟩
  · refine World.ownsRow.kept h.o hg ?_
    cases hv : v.ownBlock with
    | none => exact Or.inl rfl
    | some g => exact Or.inr fun e => (hr g e.symm).2.1 hv.symm
  · obtain ⟨h1, h2⟩ := h.marks D hD
    exact (hg.block D (Array.getElem?_eq_some_iff.1 h2).1 (fun e => (hr _ e.symm).2.2 hD)).trans h2
theorem Sy.step {w V V2 : World} {S bq base pp pl qq ql : Nat} {Ds : List Nat} {L M : List Pl} {v : Value} {H : List Int} (h : Sy w V S bq base pp pl qq ql Ds L M v H) (hb : Below V.heap.size V V2) : Sy w V2 S bq base pp pl qq ql Ds L M v H :=
  h.other (row := none) (below_grown hb none) (fun x e => by cases e)
theorem Sy.own {w V V2 : World} {S bq base pp pl qq ql n : Nat} {Ds : List Nat} {L M : List Pl} {v : Value} {H : List Int} (h : Sy w V S bq base pp pl qq ql Ds L M v H) {row : Option Nat} (hg : V.grownBy V2 row)
    (hr : ∀ r, row = some r → n ≤ r ∧ ∃ o : Obj, V.heap[r]? = some o ∧ o.isCells = false) (hn : base ≤ n) (hD : ∀ D ∈ Ds, D < n) : Sy w V2 S bq base pp pl qq ql Ds L M v H := by
  refine h.other hg (fun x e => ?_)
  obtain ⟨h1, o, h2, h3⟩ := hr x e
  refine ⟨by omega, fun e' => ?_, fun hx => by have := hD x hx; omega⟩
  rcases h.o.2 with ⟨rfl, _⟩ | ⟨g, cap, cur, rfl, _, hg2, _⟩
  · simp [Value.ownBlock] at e'
  · simp only [Value.ownBlock, Option.some.injEq] at e'
    subst e'
    rw [hg2] at h2; cases h2; cases h3
theorem Sy.turnP {w V V2 : World} {S bq base pp pl qq ql : Nat} {Ds : List Nat} {L L2 M : List Pl} {v : Value} {H : List Int} (h : Sy w V S bq base pp pl qq ql Ds L M v H) (hp : IsPool V2 pp pl L2) (hg : V.grownBy V2 (some pl)) : Sy w V2 S bq base pp pl qq ql Ds L2 M v H := by
  have a := h.o1
  have b := h.o2
  have c := h.o3
  refine ⟨hp, h.q.grown hg (by simp; omega) (by simp; omega), h.o.kept hg (fun r e => by injection e; omega), h.r.kept hg (by simp; omega), h.b.kept hg (by simp; omega), h.below.grown hg h.below.size (fun k e => by injection e; omega), Nat.le_trans h.bs hg.size, h.hs, fun D hD => ⟨(h.marks D hD).1, ?_⟩, h.o1, h.o2, h.o3⟩
  obtain ⟨h1, h2⟩ := h.marks D hD
  exact (hg.block D (Array.getElem?_eq_some_iff.1 h2).1 (by simp; omega)).trans h2
theorem Sy.turnQ {w V V2 : World} {S bq base pp pl qq ql : Nat} {Ds : List Nat} {L M M2 : List Pl} {v : Value} {H : List Int} (h : Sy w V S bq base pp pl qq ql Ds L M v H) (hp : IsPool V2 qq ql M2) (hg : V.grownBy V2 (some ql)) : Sy w V2 S bq base pp pl qq ql Ds L M2 v H := by
  have a := h.o1
  have b := h.o2
  have c := h.o3
  refine ⟨h.p.grown hg (by simp; omega) (by simp; omega), hp, h.o.kept hg (fun r e => by injection e; omega), h.r.kept hg (by simp; omega), h.b.kept hg (by simp; omega), h.below.grown hg h.below.size (fun k e => by injection e; omega), Nat.le_trans h.bs hg.size, h.hs, fun D hD => ⟨(h.marks D hD).1, ?_⟩, h.o1, h.o2, h.o3⟩
  obtain ⟨h1, h2⟩ := h.marks D hD
  exact (hg.block D (Array.getElem?_eq_some_iff.1 h2).1 (by simp; omega)).trans h2
theorem Sy.app {w V V2 : World} {S bq base pp pl qq ql : Nat} {Ds : List Nat} {L M : List Pl} {v v' : Value} {H : List Int} (h : Sy w V S bq base pp pl qq ql Ds L M v H) {o : Obj} {hd : Int} (h0 : 0 ≤ hd) (h1 : hd ≤ 1000000000000000) (hr : V2.ownsRow base 36 1 v' (H.length + 1) (H.map (.int .i64) ++ [.int .i64 hd])) (hg : (V.alloc o).grownBy V2 v.ownBlock) : Sy w V2 S bq base pp pl qq ql Ds L M v' (H ++ [hd]) := by
  have k := h.step (V2 := V.alloc o) ((Below.refl _ _).alloc (Nat.le_refl _) _)
  have a := k.o1
  have b := k.o2
  have hb : ∀ x, v.ownBlock = some x → base ≤ x := fun x e => (World.ownsRow.lt k.o x e).1
  refine ⟨k.p.grown hg (fun e => by have := hb _ e.symm; omega) (fun e => by have := hb _ e.symm; omega), k.q.grown hg (fun e => by have := hb _ e.symm; omega) (fun e => by have := hb _ e.symm; omega), ?_, k.r.kept hg (fun e => by have := hb _ e.symm; omega), k.b.kept hg (fun e => by have := hb _ e.symm; omega), k.below.grown hg k.below.size (fun x e => by have := hb _ e; omega), Nat.le_trans k.bs hg.size, fun x hx => ?_, fun D hD => ⟨(k.marks D hD).1, ?_⟩, k.o1, k.o2, k.o3⟩
  · unfold Owns
    rw [List.map_append, List.length_append, List.length_map]
    exact hr
  · rcases List.mem_append.1 hx with h | h
    · exact k.hs x h
    · simp at h; subst h; exact ⟨h0, h1⟩
  · obtain ⟨e1, e2⟩ := k.marks D hD
    refine (hg.block D (Array.getElem?_eq_some_iff.1 e2).1 (fun e => ?_)).trans e2
    rcases k.o.2 with ⟨rfl, _⟩ | ⟨g, cap, cur, rfl, _, hg2, _⟩
    · simp [Value.ownBlock] at e
    · simp only [Value.ownBlock, Option.some.injEq] at e
      subst e
      rw [hg2] at e2; cases e2
theorem Sy.mark {w V : World} {S bq base pp pl qq ql D : Nat} {Ds : List Nat} {L M : List Pl} {v : Value} {H : List Int} (h : Sy w V S bq base pp pl qq ql Ds L M v H) (hD : base ≤ D) (hV : V.heap[D]? = some (.deferred (some []))) : Sy w V S bq base pp pl qq ql (D :: Ds) L M v H :=
  ⟨h.p, h.q, h.o, h.r, h.b, h.below, h.bs, h.hs, fun x hx => by
    rcases List.mem_cons.1 hx with rfl | hx
    · exact ⟨hD, hV⟩
    · exact h.marks x hx, h.o1, h.o2, h.o3⟩
def Script (w : World) (a : Option Addr) (len : Nat) (sw sn sx : Nat → Int) (sb : Nat → Bool) : Prop := len ≤ 9223372036854775807 ∧
  (len = 0 ∨ ∃ b off, a = some ⟨b, off, none⟩ ∧ ∀ i, i < len → w.cell? ⟨b, off + i * 4, none⟩ = some (.int .i64 (sw i)) ∧ w.cell? ⟨b, off + i * 4 + 1, none⟩ = some (.int .i64 (sn i)) ∧ w.cell? ⟨b, off + i * 4 + 2, none⟩ = some (.int .i64 (sx i)) ∧ w.cell? ⟨b, off + i * 4 + 3, none⟩ = some (.bool (sb i))) ∧
  ∀ i, i < len → (-9223372036854775808 ≤ sw i ∧ sw i ≤ 9223372036854775807) ∧ (-9223372036854775808 ≤ sn i ∧ sn i ≤ 9223372036854775807)
theorem Sy.leave {w V : World} {S bq base pp pl qq ql D1 D2 : Nat} {L M : List Pl} {v : Value} {H : List Int} (h : Sy w V S bq base pp pl qq ql [D2, D1] L M v H) (hne : D1 ≠ D2) :
    (V.setCell ⟨S, 0, none⟩ (.bool true)).heap[D2]? = some (.deferred (some [])) ∧ ((V.setCell ⟨S, 0, none⟩ (.bool true)).putObj D2 (.deferred none)).heap[D1]? = some (.deferred (some [])) ∧
    (((V.setCell ⟨S, 0, none⟩ (.bool true)).putObj D2 (.deferred none)).putObj D1 (.deferred none)).cell? ⟨S, 0, none⟩ = some (.bool true) ∧ Below w.heap.size w (((V.setCell ⟨S, 0, none⟩ (.bool true)).putObj D2 (.deferred none)).putObj D1 (.deferred none)) := by
  have a := h.o1
  have b := h.o2
  obtain ⟨a1, a2⟩ := h.marks D1 (by simp)
  obtain ⟨b1, b2⟩ := h.marks D2 (by simp)
  have g1 : V.grownBy (V.setCell ⟨S, 0, none⟩ (.bool true)) (some S) := G.set (World.grownBy.refl _ _) 0 _
  have g2 := grownBy_putObj' (V.setCell ⟨S, 0, none⟩ (.bool true)) D2 (.deferred none)
  have g3 := grownBy_putObj' ((V.setCell ⟨S, 0, none⟩ (.bool true)).putObj D2 (.deferred none)) D1 (.deferred none)
  have x2 := (g1.block D2 (Array.getElem?_eq_some_iff.1 b2).1 (by simp; omega)).trans b2
  have x1 := (g1.block D1 (Array.getElem?_eq_some_iff.1 a2).1 (by simp; omega)).trans a2
  have y1 := (g2.block D1 (Array.getElem?_eq_some_iff.1 x1).1 (by simp; omega)).trans x1
  have e1 : Below w.heap.size w (V.setCell ⟨S, 0, none⟩ (.bool true)) := h.below.setCell (p := ⟨S, 0, none⟩) (by show w.heap.size ≤ S; omega) _
  have e2 := e1.grown g2 e1.size (fun k e => by injection e; omega)
  exact ⟨x2, y1, (((h.r.set (.bool true)).kept g2 (by simp; omega)).kept g3 (by simp; omega)).cell, e2.grown g3 e2.size (fun k e => by injection e; omega)⟩
attribute [local go_sem] Oper.semAt_some in
set_option maxRecDepth 100000 in
set_option maxHeartbeats 16000000 in
theorem walk (a1 : Option Addr) (len1 cap1 : Nat) (sw sn sx : Nat → Int) (sb : Nat → Bool) (a2 : Option Addr) (len2 cap2 : Nat) (tw tn tx : Nat → Int) (tb : Nat → Bool) (room0 : Int) (w : World)
    (hs1 : Script w a1 len1 sw sn sx sb) (hs2 : Script w a2 len2 tw tn tx tb) (r0 : -9223372036854775808 ≤ room0) (r1 : room0 ≤ 9223372036854775807) :
    Calls Try.prog 6 #[.int .i64 room0, .slice a1 len1 cap1, .slice a2 len2 cap2] w fun e w' => e = .returned (.bool true) ∧ Below w.heap.size w w' := by
  obtain ⟨ih, hih, hz0, hz1, hz2⟩ := info_parts info_h
  have HH : Hid _ := And.intro hih (And.intro hz0 (And.intro hz1 hz2))
  have hln1 := hs1.1
  have hln2 := hs2.1
  have HS1 : Hid (Script w a1 len1 sw sn sx sb) := hs1
  have HS2 : Hid (Script w a2 len2 tw tn tx tb) := hs2
  clear hih hz0 hz1 hz2 hs1 hs2
  refine (callsIn_wide (n := 12)).1 ?_
  have h1 : 1 ≤ 12 := by omega
  refine callsIn_of_wp_marks Try.func6 rfl trivial ?_ rfl
  simp only [Try.ntmps6, List.size_toArray, List.length_cons, List.length_nil, Nat.reduceAdd, Nat.reduceSub, Array.replicate_succ, Array.replicate_zero, List.push_toArray, List.append_toArray, List.nil_append, List.cons_append]
  gi_wp2_with (fail)
  refine ⟨trivial, (callsIn_wide.2 (awake_any _)).mono ?_⟩
  rintro e W1 ⟨rfl, hb1⟩
  have br1 : Boxed W1 w.heap.size 4 (.bool false) := (hb1.block _ (by simp)).trans (Boxed.new w 4 (.bool false))
  have hB1 : Below w.heap.size w W1 := ((Below.refl _ w).alloc (Nat.le_refl _) _).trans (hb1.mono (by simp))
  have hsz1 : w.heap.size + 1 ≤ W1.heap.size := by have := hb1.size; simpa using this
  clear hb1
  obtain ⟨S, hS⟩ : ∃ n, n = w.heap.size := ⟨_, rfl⟩
  rw [← hS] at br1
  have hSl : w.heap.size ≤ S := by omega
  have hSr : S ≤ w.heap.size := by omega
  rw [← hS]
  clear hS
  have HB1 : Hid _ := hB1
  clear hB1
  gi_wp2_with (fail)
  refine ⟨trivial, (callsIn_wide.2 (pick_any room0 30 W1 r0 r1 (by omega) (by omega))).mono ?_⟩
  rintro e w2 ⟨q0, rfl, q1, q2, rfl⟩
  obtain ⟨rm, hrm⟩ : ∃ rm : Nat, q0 = (rm : Int) := ⟨q0.toNat, by omega⟩
  subst hrm
  have hrm2 : rm < 30 := by omega
  clear q1 q2
  gi_wp2_with (fail)
  have N := new_yes (rm + 1) w2 (by omega) (by omega)
  rw [show ((rm + 1 : Nat) : Int) = 1 + (rm : Int) by omega] at N
  refine ⟨trivial, (callsIn_wide.2 N).mono ?_⟩
  clear N
  rintro e W2 ⟨pp, pl, rfl, hpl, hpp, hp, hb2⟩
  have hppl : pp < W2.heap.size := World.block_lt_of_cell? _ _ hp.slice
  have hpll := hp.lt
  have hz12 := hb2.size
  gi_wp2_with (fail)
  have N := new_yes (rm + 1) W2 (by omega) (by omega)
  rw [show ((rm + 1 : Nat) : Int) = 1 + (rm : Int) by omega] at N
  refine ⟨trivial, (callsIn_wide.2 N).mono ?_⟩
  clear N
  rintro e W3 ⟨qq, ql, rfl, hql, hqq, hq, hb3⟩
  have hqql : qq < W3.heap.size := World.block_lt_of_cell? _ _ hq.slice
  have hqll := hq.lt
  have hz23 := hb3.size
  obtain ⟨bq, hbq⟩ : ∃ n, n = W3.heap.size := ⟨_, rfl⟩
  obtain ⟨V5, hV5⟩ : ∃ V, V = W3.alloc (.cells #[.pointer (some ⟨qq, 0, none⟩)] 24) := ⟨_, rfl⟩
  have hb5 : Below W3.heap.size W3 V5 := by rw [hV5]; exact (Below.refl _ _).alloc (Nat.le_refl _) _
  have bq5 : Boxed V5 bq 24 (.pointer (some ⟨qq, 0, none⟩)) := by rw [hV5, hbq]; exact Boxed.new _ _ _
  have hz5 : V5.heap.size = bq + 1 := by rw [hV5, hbq]; simp
  obtain ⟨base, hbase⟩ : ∃ n, n = bq + 1 := ⟨_, rfl⟩
  have br3 : Boxed V5 S 4 (.bool false) := (hb5.block _ (by omega)).trans ((hb3.block _ (by omega)).trans ((hb2.block _ (by omega)).trans br1))
  have hB3 : Below w.heap.size w V5 := HB1.out.trans ((hb2.mono HB1.out.size).trans ((hb3.mono (by omega)).trans (hb5.mono (by omega))))
  obtain ⟨M0, hM0⟩ : ∃ M, M = List.replicate (rm + 1) (⟨0, false, 0⟩ : Pl) := ⟨_, rfl⟩
  have HLL : Hid (M0.length = rm + 1) := by show _ = _; rw [hM0]; simp
  rw [← hM0] at hp hq
  have HM0 : Hid _ := hM0
  clear hM0
  have SY : Hid (Sy w V5 S bq base pp pl qq ql [] M0 M0 (.slice none 0 0) []) :=
    ⟨(hp.below hb3).below hb5, hq.below hb5, Owns.nil _ _ _, br3, bq5, hB3, by omega, fun h hh => absurd hh (by simp), fun D hD => absurd hD (by simp), by omega, by omega, by omega⟩
  have cq := bq5.cell
  have hbb : bq < base := by omega
  have hbS : S < bq := by omega
  gi_wp2_with (fail)
  rw [← hbq]
  rw [← hV5]
  clear hV5 hbq hb5 bq5 hz5 hbase br3 hB3 br1 HB1 hb2 hb3 hp hq
  refine wpIn_loop_rounds 3 ?_
  rw [roundsIn_succ]
  have Q1 : Hid _ := len_any qq ql M0 V5 SY.out.q
  gi_wp2_with (fail)
  refine ⟨trivial, CallsIn.mono (callsIn_wide.2 Q1.out) ?_⟩
  rintro e V6 ⟨rfl, hb6⟩
  have SY : Hid _ := SY.out.step hb6
  clear hb6 Q1 cq
  gi_wp2_with (fail)
  gi_loopw [12, 18] (fun v12 v18 wr => ∃ (n : Nat) (L : List Pl) (H : List Int), v18 = .int .i64 (n : Int) ∧ n ≤ len1 ∧ n ≤ 100 ∧ Hid (Sy w wr S bq base pp pl qq ql [] L M0 v12 H) ∧ H.length ≤ 0 + n ∧ Hid (L.length = rm + 1)) (fun _ i _ => len1 - (intOf i).toNat)
  case atStart => exact ⟨0, _, _, rfl, Nat.zero_le _, Nat.zero_le _, SY, by simp, HLL⟩
  case round =>
    clear SY HLL
    obtain ⟨n, L, H, rfl, hn1, hn2, SY, hHn, HLL⟩ := hrel
    obtain ⟨a8, k8, e8, l8, f8⟩ := SY.out.o.form
    subst e8
    have RR : Hid (wr.ownsRow base 36 1 (.slice a8 H.length k8) H.length (H.map (.int .i64))) := (by have h := SY.out.o; unfold Owns at h; rw [List.length_map] at h; exact h)
    rw [List.length_map] at l8 f8
    simp only [List.length_map] at SY
    simp only [List.length_map]
    have hbs := SY.out.bs
    by_cases hlt : n < len1
    · by_cases hlt2 : n < 100
      · obtain ⟨b, off, ha, hcells⟩ := HS1.out.2.1.resolve_left (by omega)
        subst ha
        obtain ⟨s0, s1, s2, s3⟩ := hcells n hlt
        obtain ⟨⟨p0, p1⟩, ⟨p2, p3⟩⟩ := HS1.out.2.2 n hlt
        have hblt : b < w.heap.size := World.block_lt_of_cell? _ _ s0
        have d0 := (SY.out.below.cell (p := ⟨b, off + n * 4, none⟩) hblt).trans s0
        have d1 := (SY.out.below.cell (p := ⟨b, off + n * 4 + 1, none⟩) hblt).trans s1
        have d2 := (SY.out.below.cell (p := ⟨b, off + n * 4 + 2, none⟩) hblt).trans s2
        clear hcells s0 s1 s2 s3
        gi_wp2_with (fail)
        refine ⟨trivial, (callsIn_wide.2 (pick_any (sw n) 2 wr p0 p1 (by omega) (by omega))).mono ?_⟩
        rintro e V9 ⟨qv, rfl, q1, q2, rfl⟩
        rcases (show qv = 0 ∨ qv = 1 by omega) with rfl | rfl
        · gi_wp2_with (fail)
          refine ⟨trivial, (callsIn_wide.2 (put_some pp pl L (sx n) V9 SY.out.p)).mono ?_⟩
          rintro e V1 ⟨hd, fv, L1, rfl, hfv, hd0, hd1, HL1, hp1, hg1⟩
          have HLL1 : Hid (L1.length = rm + 1) := HL1.out.trans HLL.out
          have SY1 : Hid _ := SY.out.turnP hp1 hg1
          have hbs1 : base ≤ V1.heap.size := SY1.out.bs
          rcases hfv with rfl | rfl
          · have R8 : Hid (V1.ownsRow base 36 1 (.slice a8 H.length k8) H.length (H.map (.int .i64))) := (by have h := SY1.out.o; unfold Owns at h; rw [List.length_map] at h; exact h)
            clear hp1 hg1 SY RR f8 d0 d1 d2
            gi_wp2_with (gi_at_builtin; refine wpListIn_append_own _ rfl _ _ 50 rfl base 36 ih (.int .i64 0) 1 8 Try.underlying50 HH.out.1 HH.out.2.1 HH.out.2.2.1 HH.out.2.2.2 rfl (by decide) _ _ _ rfl (World.ownsRow.alloc R8.out _) ⟨V1.heap.size, 0, none⟩ 1 1 [.int .i64 hd] rfl rfl (cell_one_new _ _ _) (ints_oneCell .i64 [hd]) (by unfold maxLen; omega) (by omega) (by simp; omega) ?_; intro v8 V2 r8 g8 _; obtain ⟨gg8, kk8, rfl⟩ := ownsRow_succ r8; have SY2 : Hid _ := SY1.out.app hd0 hd1 r8 g8; clear r8 g8 R8)
            go_roundw
            case rel => exact ⟨n + 1, L1, H ++ [hd], by go_num, by omega, by omega, SY2, by simp; omega, HLL1⟩
            case measure => simp [intOf]; omega
          · clear hp1 hg1 SY RR f8 d0 d1 d2
            gi_wp2_with (fail)
            go_roundw
            case rel => exact ⟨n + 1, L1, H, by go_num, by omega, by omega, SY1, by omega, HLL1⟩
            case measure => simp [intOf]; omega
        · by_cases hH : 0 < H.length
          · gi_wp2_with (fail)
            refine ⟨trivial, (callsIn_wide.2 (pick_any (sn n) H.length V9 p2 p3 (by omega) (by omega))).mono ?_⟩
            rintro e V8 ⟨qv, rfl, q1, q2, rfl⟩
            obtain ⟨kx, hkx⟩ : ∃ k : Nat, qv = (k : Int) := ⟨qv.toNat, by omega⟩
            subst hkx
            have hk : kx < H.length := by omega
            obtain ⟨g8, e8, b8, t8, c8, z8⟩ := f8 hH
            subst e8
            have x8 := (c8 kx hk).trans (map_int hk)
            have hm : (H[kx]?.getD 0) ≤ 1000000000000000 := by
              rw [List.getElem?_eq_getElem hk]
              exact (SY.out.hs _ (List.getElem_mem hk)).2
            generalize H[kx]?.getD 0 = hv at x8 hm
            have D := drop_any pp pl L hv V8 SY.out.p (by omega)
            have HD : Hid _ := D
            clear D c8 z8 d0 d1 d2 RR
            gi_wp2_with (fail)
            refine ⟨trivial, CallsIn.mono (callsIn_wide.2 HD.out) ?_⟩
            rintro e V1 ⟨bv, L1, rfl, HL1, hp1, hg1⟩
            have HLL1 : Hid (L1.length = rm + 1) := HL1.out.trans HLL.out
            have SY1 : Hid _ := SY.out.turnP hp1 hg1
            clear hp1 hg1 SY HD x8
            gi_wp2_with (fail)
            go_roundw
            case rel => exact ⟨n + 1, L1, H, by go_num, by omega, by omega, SY1, by omega, HLL1⟩
            case measure => simp [intOf]; omega
          · clear RR f8 d0 d1 d2
            gi_wp2_with (fail)
            go_roundw
            case rel => exact ⟨n + 1, L, H, by go_num, by omega, by omega, SY, by omega, HLL⟩
            case measure => simp [intOf]; omega
      · obtain rfl : n = 100 := by omega
        clear RR f8
        have Q2 : Hid _ := len_any qq ql M0 wr SY.out.q
        have cq := SY.out.b.cell
        gi_wp2_with (fail)
        refine ⟨trivial, CallsIn.mono (callsIn_wide.2 Q2.out) ?_⟩
        rintro e V7 ⟨rfl, hb7⟩
        have SY : Hid _ := SY.out.step hb7
        have cq := SY.out.b.cell
        clear hb7 Q2
        gi_wp2_with (fail)
        rw [roundsIn_succ]
        gi_wp2_with (refine ⟨trivial, ?_⟩; gi_at_call 24; refine (callsIn_wide.2 (all_in _ _)).mono ?_; rintro e w' ⟨rfl, rfl⟩)
        obtain ⟨T, hT⟩ : ∃ n, n = V7.heap.size := ⟨_, rfl⟩
        obtain ⟨W0, hW0⟩ : ∃ W, W = V7.alloc (.cells #[.pointer (some ⟨pp, 0, none⟩)] 24) := ⟨_, rfl⟩
        have S0y : Sy w W0 S bq base pp pl qq ql [] L M0 (.slice a8 H.length k8) H := by rw [hW0]; exact SY.out.step ((Below.refl _ _).alloc (Nat.le_refl _) _)
        have hbs0 : W0.cell? ⟨T, 0, none⟩ = some (.pointer (some ⟨pp, 0, none⟩)) := by rw [hW0, hT]; simp
        have hz0 : W0.heap.size = T + 1 := by rw [hW0, hT]; simp
        have hTb : base ≤ T := by have := SY.out.bs; omega
        rw [← hT]
        rw [← hW0]
        clear hT hW0 SY cq
        have HL0 : Hid (M0 = laid L (rm + 1) [].reverse) := HM0
        have o2 := S0y.o2
        have o3 := S0y.o3
        refine' range_by h1 (gf := 33) (lb := #[.pointer (some ⟨T, 0, none⟩)]) rfl (enters_of Try.func33 (by kernel_rfl) rfl)
          (all_tells (12 - 1) (by omega) T pp pl L W0 S0y.p hbs0) (fun h k => Keep.trans h k) (fun _ _ _ o' _ h hc => keep_b o' h hc) (fun _ => rfl)
          (fun pre V => Hid (Sy w V S bq base pp pl qq ql [] L (laid L (rm + 1) pre.reverse) (.slice a8 H.length k8) H) ∧ pre.Pairwise (fun a b => a.1.val ≠ b.1.val))
          (fun c pre V => c = .ret ∧ ¬ pre.Pairwise (fun a b => a.1.val ≠ b.1.val))
          (fun s A B row hs hg hr => ⟨hs.1.out.own hg hr (by omega) (fun D hD => absurd hD (by simp)), hs.2⟩)
          (fun c s A B row hs hg hr => hs)
          ⟨by show Sy _ _ _ _ _ _ _ _ _ _ _ _ _ _; rw [← HL0.out]; exact S0y, List.Pairwise.nil⟩ _ ?assign ?body ?done ?stop
        case assign =>
          intro l x W K hK
          unfold encA
          gi_wp2
          exact hK
        case body =>
          rintro l pre x V ⟨SY, hpw⟩ hlen
          have hi := x.1.isLt
          have hll := HLL.out
          have hM : (laid L (rm + 1) pre.reverse).length = rm + 1 := laid_length _ _ _
          have hat := laid_at L (rm + 1) (by omega) pre.reverse x.1.val hi
          obtain ⟨k0, k1, k2⟩ := S0y.p.okAt x.1.val
          have k3 : (at_ L x.1.val).age ≤ 1073741824 := k2 x.2
          have k0' : 0 ≤ (at_ L x.1.val).age := k0
          have hx : at_ L x.1.val = ⟨(at_ L x.1.val).age, true, (at_ L x.1.val).x⟩ := by
            have h2 := x.2
            generalize at_ L x.1.val = P at *
            obtain ⟨p1, p2, p3⟩ := P
            simp only at h2
            rw [h2]
          have cq := SY.out.b.cell
          have cr := SY.out.r.cell
          have fr := SY.out.r.frozen
          have hlt9 : x.1.val < (laid L (rm + 1) pre.reverse).length := by omega
          unfold handleOf
          by_cases hin : ∃ y ∈ pre.reverse, y.1.val = x.1.val
          · rw [if_pos hin] at hat
            have Q := lay_no qq ql _ (at_ L x.1.val).age (at_ L x.1.val).x x.1.val V SY.out.q hlt9 (by rw [hat]; exact x.2) k0' (by omega)
            have HQ : Hid _ := Q
            have hnot : Hid (¬ (pre ++ [x]).Pairwise (fun a b => a.1.val ≠ b.1.val)) := by
              intro h
              obtain ⟨y, hy, hyx⟩ := hin
              exact (List.pairwise_append.1 h).2.2 y (List.mem_reverse.1 hy) x (by simp) hyx
            clear Q hin hat hx hpw k0 k1 k2
            generalize (at_ L x.1.val).age * 65536 + (x.1.val : Int) + 1 = hv at *
            generalize (at_ L x.1.val).x = xv at *
            gi_wp2_with (fail)
            refine ⟨trivial, CallsIn.mono (CallsIn.inRound l (callsIn_wide.2 HQ.out)) ?_⟩
            rintro e V2 ⟨rfl, rfl⟩
            gi_wp2_with (fail)
            refine ⟨trivial, ?_⟩
            gi_wp2_with (fail)
            exact ⟨(KeepsOthers.setCell _ _ _).from _, rfl, hnot.out⟩
          · rw [if_neg hin] at hat
            have Q := lay_yes qq ql _ (at_ L x.1.val).age (at_ L x.1.val).x x.1.val V SY.out.q hlt9 (by rw [hat]) k0' k3 (by rw [hat]; exact k0')
            rw [← hx] at Q
            have hset : (laid L (rm + 1) pre.reverse).set x.1.val (at_ L x.1.val) = laid L (rm + 1) (pre ++ [x]).reverse := by rw [List.reverse_append]; rfl
            rw [hset] at Q
            have HQ : Hid _ := Q
            have hyes : Hid ((pre ++ [x]).Pairwise (fun a b => a.1.val ≠ b.1.val)) := List.pairwise_append.2 ⟨hpw, List.pairwise_singleton _ _, fun a ha b hb => by simp at hb; subst hb; exact fun e => hin ⟨a, List.mem_reverse.2 ha, e⟩⟩
            have hat2 : Hid ((at_ (laid L (rm + 1) (pre ++ [x]).reverse) x.1.val).has = true) := by show _ = _; rw [← hset, at_set_same hlt9]; exact x.2
            have hlt8 : x.1.val < (laid L (rm + 1) (pre ++ [x]).reverse).length := by rw [laid_length]; omega
            have N2 : Hid (∀ V2 : World, IsPool V2 qq ql (laid L (rm + 1) (pre ++ [x]).reverse) → Calls Try.prog 11 #[.pointer (some ⟨qq, 0, none⟩), .int .i64 ((at_ L x.1.val).age * 65536 + (x.1.val : Int) + 1), .int .i64 (at_ L x.1.val).x] V2 fun e w' => e = .returned (.bool false) ∧ w' = V2) :=
              fun V2 h2 => lay_no qq ql _ (at_ L x.1.val).age (at_ L x.1.val).x x.1.val V2 h2 hlt8 hat2.out k0' (by omega)
            clear Q hin hat hx hpw k0 k1 k2 hset hat2 hlt8 hlt9 hM
            generalize (at_ L x.1.val).age * 65536 + (x.1.val : Int) + 1 = hv at *
            generalize (at_ L x.1.val).x = xv at *
            gi_wp2_with (fail)
            refine ⟨trivial, CallsIn.mono (CallsIn.inRound l (callsIn_wide.2 HQ.out)) ?_⟩
            rintro e V2 ⟨rfl, hq2, hg2⟩
            have SY2 : Hid _ := SY.out.turnQ hq2 hg2
            have cq := SY2.out.b.cell
            have N3 : Hid _ := N2.out V2 hq2
            have hlq : ql < W0.heap.size := by omega
            have HG2 : Hid _ := hg2
            clear N2 hq2 hg2 HQ
            gi_wp2_with (fail)
            refine ⟨trivial, CallsIn.mono (CallsIn.inRound l (callsIn_wide.2 N3.out)) ?_⟩
            rintro e V3 ⟨rfl, rfl⟩
            gi_wp2_with (fail)
            exact ⟨KeepsFrom.of_grownBy HG2.out (fun j e => by injection e; omega), keep_grown HG2.out (fun r e => by injection e; omega), SY2, hyes.out⟩
        case done =>
          rintro D1 ys V hD1 rfl ⟨SY, hpw⟩ hK1
          obtain ⟨M1, hM1⟩ : ∃ M, M = laid L (rm + 1) (lives L (ups L.length L.length)).reverse := ⟨_, rfl⟩
          rw [← hM1] at SY
          have SY : Hid _ := SY.out.mark (D := D1) (by omega) hK1
          clear hM1 hpw HL0 S0y
          have Q2 : Hid _ := len_any qq ql M1 V SY.out.q
          have cq := SY.out.b.cell
          gi_wp2_with (fail)
          refine ⟨trivial, CallsIn.mono (callsIn_wide.2 Q2.out) ?_⟩
          rintro e V6 ⟨rfl, hb6⟩
          have SY : Hid _ := SY.out.step hb6
          clear hb6 Q2 hK1 cq
          gi_wp2_with (fail)
          gi_loopw [12, 18] (fun v12 v18 wr => ∃ (n : Nat) (L : List Pl) (H : List Int), v18 = .int .i64 (n : Int) ∧ n ≤ len2 ∧ n ≤ 100 ∧ Hid (Sy w wr S bq base pp pl qq ql [D1] L M1 v12 H) ∧ H.length ≤ 100 + n ∧ Hid (L.length = rm + 1)) (fun _ i _ => len2 - (intOf i).toNat)
          case atStart => exact ⟨0, _, _, rfl, Nat.zero_le _, Nat.zero_le _, SY, by omega, HLL⟩
          case round =>
            clear SY HLL
            obtain ⟨n, L, H, rfl, hn1, hn2, SY, hHn, HLL⟩ := hrel
            obtain ⟨a8, k8, e8, l8, f8⟩ := SY.out.o.form
            subst e8
            have RR : Hid (wr.ownsRow base 36 1 (.slice a8 H.length k8) H.length (H.map (.int .i64))) := (by have h := SY.out.o; unfold Owns at h; rw [List.length_map] at h; exact h)
            rw [List.length_map] at l8 f8
            simp only [List.length_map] at SY
            simp only [List.length_map]
            have hbs := SY.out.bs
            by_cases hlt : n < len2
            · by_cases hlt2 : n < 100
              · obtain ⟨b, off, ha, hcells⟩ := HS2.out.2.1.resolve_left (by omega)
                subst ha
                obtain ⟨s0, s1, s2, s3⟩ := hcells n hlt
                obtain ⟨⟨p0, p1⟩, ⟨p2, p3⟩⟩ := HS2.out.2.2 n hlt
                have hblt : b < w.heap.size := World.block_lt_of_cell? _ _ s0
                have d0 := (SY.out.below.cell (p := ⟨b, off + n * 4, none⟩) hblt).trans s0
                have d1 := (SY.out.below.cell (p := ⟨b, off + n * 4 + 1, none⟩) hblt).trans s1
                have d2 := (SY.out.below.cell (p := ⟨b, off + n * 4 + 2, none⟩) hblt).trans s2
                clear hcells s0 s1 s2 s3
                gi_wp2_with (fail)
                refine ⟨trivial, (callsIn_wide.2 (pick_any (tw n) 2 wr p0 p1 (by omega) (by omega))).mono ?_⟩
                rintro e V9 ⟨qv, rfl, q1, q2, rfl⟩
                rcases (show qv = 0 ∨ qv = 1 by omega) with rfl | rfl
                · gi_wp2_with (fail)
                  refine ⟨trivial, (callsIn_wide.2 (put_some pp pl L (tx n) V9 SY.out.p)).mono ?_⟩
                  rintro e V1 ⟨hd, fv, L1, rfl, hfv, hd0, hd1, HL1, hp1, hg1⟩
                  have HLL1 : Hid (L1.length = rm + 1) := HL1.out.trans HLL.out
                  have SY1 : Hid _ := SY.out.turnP hp1 hg1
                  have hbs1 : base ≤ V1.heap.size := SY1.out.bs
                  rcases hfv with rfl | rfl
                  · have R8 : Hid (V1.ownsRow base 36 1 (.slice a8 H.length k8) H.length (H.map (.int .i64))) := (by have h := SY1.out.o; unfold Owns at h; rw [List.length_map] at h; exact h)
                    clear hp1 hg1 SY RR f8 d0 d1 d2
                    gi_wp2_with (gi_at_builtin; refine wpListIn_append_own _ rfl _ _ 50 rfl base 36 ih (.int .i64 0) 1 8 Try.underlying50 HH.out.1 HH.out.2.1 HH.out.2.2.1 HH.out.2.2.2 rfl (by decide) _ _ _ rfl (World.ownsRow.alloc R8.out _) ⟨V1.heap.size, 0, none⟩ 1 1 [.int .i64 hd] rfl rfl (cell_one_new _ _ _) (ints_oneCell .i64 [hd]) (by unfold maxLen; omega) (by omega) (by simp; omega) ?_; intro v8 V2 r8 g8 _; obtain ⟨gg8, kk8, rfl⟩ := ownsRow_succ r8; have SY2 : Hid _ := SY1.out.app hd0 hd1 r8 g8; clear r8 g8 R8)
                    go_roundw
                    case rel => exact ⟨n + 1, L1, H ++ [hd], by go_num, by omega, by omega, SY2, by simp; omega, HLL1⟩
                    case measure => simp [intOf]; omega
                  · clear hp1 hg1 SY RR f8 d0 d1 d2
                    gi_wp2_with (fail)
                    go_roundw
                    case rel => exact ⟨n + 1, L1, H, by go_num, by omega, by omega, SY1, by omega, HLL1⟩
                    case measure => simp [intOf]; omega
                · by_cases hH : 0 < H.length
                  · gi_wp2_with (fail)
                    refine ⟨trivial, (callsIn_wide.2 (pick_any (tn n) H.length V9 p2 p3 (by omega) (by omega))).mono ?_⟩
                    rintro e V8 ⟨qv, rfl, q1, q2, rfl⟩
                    obtain ⟨kx, hkx⟩ : ∃ k : Nat, qv = (k : Int) := ⟨qv.toNat, by omega⟩
                    subst hkx
                    have hk : kx < H.length := by omega
                    obtain ⟨g8, e8, b8, t8, c8, z8⟩ := f8 hH
                    subst e8
                    have x8 := (c8 kx hk).trans (map_int hk)
                    have hm : (H[kx]?.getD 0) ≤ 1000000000000000 := by
                      rw [List.getElem?_eq_getElem hk]
                      exact (SY.out.hs _ (List.getElem_mem hk)).2
                    generalize H[kx]?.getD 0 = hv at x8 hm
                    have D := drop_any pp pl L hv V8 SY.out.p (by omega)
                    have HD : Hid _ := D
                    clear D c8 z8 d0 d1 d2 RR
                    gi_wp2_with (fail)
                    refine ⟨trivial, CallsIn.mono (callsIn_wide.2 HD.out) ?_⟩
                    rintro e V1 ⟨bv, L1, rfl, HL1, hp1, hg1⟩
                    have HLL1 : Hid (L1.length = rm + 1) := HL1.out.trans HLL.out
                    have SY1 : Hid _ := SY.out.turnP hp1 hg1
                    clear hp1 hg1 SY HD x8
                    gi_wp2_with (fail)
                    go_roundw
                    case rel => exact ⟨n + 1, L1, H, by go_num, by omega, by omega, SY1, by omega, HLL1⟩
                    case measure => simp [intOf]; omega
                  · clear RR f8 d0 d1 d2
                    gi_wp2_with (fail)
                    go_roundw
                    case rel => exact ⟨n + 1, L, H, by go_num, by omega, by omega, SY, by omega, HLL⟩
                    case measure => simp [intOf]; omega
              · obtain rfl : n = 100 := by omega
                clear RR f8
                have Q2 : Hid _ := len_any qq ql M1 wr SY.out.q
                have cq := SY.out.b.cell
                gi_wp2_with (fail)
                refine ⟨trivial, CallsIn.mono (callsIn_wide.2 Q2.out) ?_⟩
                rintro e V7 ⟨rfl, hb7⟩
                have SY : Hid _ := SY.out.step hb7
                have cq := SY.out.b.cell
                clear hb7 Q2
                have cq2 : (V7.alloc (.cells #[.int .i64 0] 3)).cell? ⟨bq, 0, none⟩ = some (.pointer (some ⟨qq, 0, none⟩)) := (SY.out.b.alloc _).cell
                gi_wp2_with (refine ⟨trivial, ?_⟩; gi_at_call 24; refine (callsIn_wide.2 (all_in _ _)).mono ?_; rintro e w' ⟨rfl, rfl⟩)
                obtain ⟨T2, hT2⟩ : ∃ n, n = V7.heap.size := ⟨_, rfl⟩
                obtain ⟨W9, hW9⟩ : ∃ W, W = (V7.alloc (.cells #[.int .i64 0] 3)).alloc (.cells #[.pointer (some ⟨qq, 0, none⟩)] 24) := ⟨_, rfl⟩
                have S9 : Sy w W9 S bq base pp pl qq ql [D1] L M1 (.slice a8 H.length k8) H := by rw [hW9]; exact SY.out.step (((Below.refl _ _).alloc (Nat.le_refl _) _).alloc (by simp) _)
                have bm9 : Boxed W9 T2 3 (.int .i64 0) := by rw [hW9, hT2]; exact (Boxed.new V7 3 (.int .i64 0)).alloc _
                have hbs9 : W9.cell? ⟨T2 + 1, 0, none⟩ = some (.pointer (some ⟨qq, 0, none⟩)) := by rw [hW9, hT2]; simp [go_sem]
                have hz9 : W9.heap.size = T2 + 2 := by rw [hW9, hT2]; simp
                have hTb2 : base ≤ T2 := by have := SY.out.bs; omega
                have hD9 : D1 < T2 := by rw [hT2]; exact (Array.getElem?_eq_some_iff.1 (SY.out.marks D1 (by simp)).2).1
                have hne9 : some T2 ≠ (Value.slice a8 H.length k8).ownBlock := fun e => by have := (World.ownsRow.lt SY.out.o _ e.symm).2; omega
                have o29 := S9.o2
                rw [← hW9, ← hT2]
                clear hW9 hT2 SY cq cq2
                refine' range_by h1 (gf := 33) (lb := #[.pointer (some ⟨T2 + 1, 0, none⟩)]) rfl (enters_of Try.func33 (by kernel_rfl) rfl)
                  (all_tells (12 - 1) (by omega) (T2 + 1) qq ql M1 W9 S9.q hbs9) (fun h k => Keep.trans h k) (fun _ _ _ o' _ h hc => keep_b o' h hc) (fun _ => rfl)
                  (fun pre V => Hid (Sy w V S bq base pp pl qq ql [D1] L M1 (.slice a8 H.length k8) H) ∧ Boxed V T2 3 (.int .i64 (pre.length : Int)))
                  (fun _ _ _ => False)
                  (fun s A B row hs hg hr => ⟨hs.1.out.own hg hr (by omega) (fun D hD => by simp at hD; omega), box_own hs.2 hg hr⟩)
                  (fun _ _ _ _ _ hs _ _ => hs)
                  ⟨S9, bm9⟩ _ ?assign2 ?body2 ?done2 ?stop2
                case assign2 =>
                  intro l x W K hK
                  unfold encA
                  gi_wp2
                  exact hK
                case body2 =>
                  rintro l pre x V ⟨SY, bm⟩ hlen
                  have hr := SY.out.q.room
                  have hl : pre.length < 1024 := by omega
                  obtain ⟨f1, f2, f3⟩ := found_live SY.out.q x
                  have HG : Hid _ := get_yes qq ql M1 _ _ V SY.out.q (by omega) f1
                  have cq := SY.out.b.cell
                  have cm := bm.cell
                  have fm := bm.frozen
                  clear f1 hr hlen
                  generalize handleOf (at_ M1 x.1.val) x.1.val = hv at *
                  generalize (at_ M1 x.1.val).x = xv at *
                  gi_wp2_with (fail)
                  refine ⟨trivial, CallsIn.mono (CallsIn.inRound l (callsIn_wide.2 HG.out)) ?_⟩
                  rintro e V2 ⟨rfl, rfl⟩
                  gi_wp2_with (fail)
                  refine ⟨(KeepsOthers.setCell _ _ _).from _, keep_grown (G.set (World.grownBy.refl _ (some T2)) 0 _) (fun r e => by injection e; omega), SY.out.other (row := some T2) (G.set (World.grownBy.refl _ _) 0 _) (fun y e => by injection e with e; subst e; exact ⟨hTb2, hne9, by simp; omega⟩), ?_⟩
                  rw [List.length_append]
                  exact bm.set _
                case done2 =>
                  rintro D2 ys V hD2 rfl ⟨SY, bm⟩ hK2
                  have SY : Hid _ := SY.out.mark (D := D2) (by omega) hK2
                  have bm : Boxed V T2 3 (.int .i64 (held M1 : Int)) := bm
                  have cm := bm.cell
                  have cr := SY.out.r.cell
                  have fr := SY.out.r.frozen
                  have HF : Hid _ := SY.out.leave (by omega)
                  clear hK2 S9 bm9 SY bm
                  gi_wp2_with (fail)
                  rw [roundsIn_succ]
                  gi_wp2_with (fail)
                  refine ⟨by simp, .inl ⟨_, _, rfl, run_takeDeferred HF.out.1, by simp, .inl ⟨_, _, rfl, run_takeDeferred HF.out.2.1, ?_⟩⟩⟩
                  have b9 := HF.out.2.2.1
                  exact ⟨.bool true, by simp [results, Try.results6, go_sem, b9], rfl, HF.out.2.2.2⟩
                case stop2 =>
                  rintro D c pre V _ _ h _
                  exact h.elim
            · clear RR f8
              have Q2 : Hid _ := len_any qq ql M1 wr SY.out.q
              have cq := SY.out.b.cell
              gi_wp2_with (fail)
              refine ⟨trivial, CallsIn.mono (callsIn_wide.2 Q2.out) ?_⟩
              rintro e V7 ⟨rfl, hb7⟩
              have SY : Hid _ := SY.out.step hb7
              have cq := SY.out.b.cell
              clear hb7 Q2
              have cq2 : (V7.alloc (.cells #[.int .i64 0] 3)).cell? ⟨bq, 0, none⟩ = some (.pointer (some ⟨qq, 0, none⟩)) := (SY.out.b.alloc _).cell
              gi_wp2_with (refine ⟨trivial, ?_⟩; gi_at_call 24; refine (callsIn_wide.2 (all_in _ _)).mono ?_; rintro e w' ⟨rfl, rfl⟩)
              obtain ⟨T2, hT2⟩ : ∃ n, n = V7.heap.size := ⟨_, rfl⟩
              obtain ⟨W9, hW9⟩ : ∃ W, W = (V7.alloc (.cells #[.int .i64 0] 3)).alloc (.cells #[.pointer (some ⟨qq, 0, none⟩)] 24) := ⟨_, rfl⟩
              have S9 : Sy w W9 S bq base pp pl qq ql [D1] L M1 (.slice a8 H.length k8) H := by rw [hW9]; exact SY.out.step (((Below.refl _ _).alloc (Nat.le_refl _) _).alloc (by simp) _)
              have bm9 : Boxed W9 T2 3 (.int .i64 0) := by rw [hW9, hT2]; exact (Boxed.new V7 3 (.int .i64 0)).alloc _
              have hbs9 : W9.cell? ⟨T2 + 1, 0, none⟩ = some (.pointer (some ⟨qq, 0, none⟩)) := by rw [hW9, hT2]; simp [go_sem]
              have hz9 : W9.heap.size = T2 + 2 := by rw [hW9, hT2]; simp
              have hTb2 : base ≤ T2 := by have := SY.out.bs; omega
              have hD9 : D1 < T2 := by rw [hT2]; exact (Array.getElem?_eq_some_iff.1 (SY.out.marks D1 (by simp)).2).1
              have hne9 : some T2 ≠ (Value.slice a8 H.length k8).ownBlock := fun e => by have := (World.ownsRow.lt SY.out.o _ e.symm).2; omega
              have o29 := S9.o2
              rw [← hW9, ← hT2]
              clear hW9 hT2 SY cq cq2
              refine' range_by h1 (gf := 33) (lb := #[.pointer (some ⟨T2 + 1, 0, none⟩)]) rfl (enters_of Try.func33 (by kernel_rfl) rfl)
                (all_tells (12 - 1) (by omega) (T2 + 1) qq ql M1 W9 S9.q hbs9) (fun h k => Keep.trans h k) (fun _ _ _ o' _ h hc => keep_b o' h hc) (fun _ => rfl)
                (fun pre V => Hid (Sy w V S bq base pp pl qq ql [D1] L M1 (.slice a8 H.length k8) H) ∧ Boxed V T2 3 (.int .i64 (pre.length : Int)))
                (fun _ _ _ => False)
                (fun s A B row hs hg hr => ⟨hs.1.out.own hg hr (by omega) (fun D hD => by simp at hD; omega), box_own hs.2 hg hr⟩)
                (fun _ _ _ _ _ hs _ _ => hs)
                ⟨S9, bm9⟩ _ ?assign2 ?body2 ?done2 ?stop2
              case assign2 =>
                intro l x W K hK
                unfold encA
                gi_wp2
                exact hK
              case body2 =>
                rintro l pre x V ⟨SY, bm⟩ hlen
                have hr := SY.out.q.room
                have hl : pre.length < 1024 := by omega
                obtain ⟨f1, f2, f3⟩ := found_live SY.out.q x
                have HG : Hid _ := get_yes qq ql M1 _ _ V SY.out.q (by omega) f1
                have cq := SY.out.b.cell
                have cm := bm.cell
                have fm := bm.frozen
                clear f1 hr hlen
                generalize handleOf (at_ M1 x.1.val) x.1.val = hv at *
                generalize (at_ M1 x.1.val).x = xv at *
                gi_wp2_with (fail)
                refine ⟨trivial, CallsIn.mono (CallsIn.inRound l (callsIn_wide.2 HG.out)) ?_⟩
                rintro e V2 ⟨rfl, rfl⟩
                gi_wp2_with (fail)
                refine ⟨(KeepsOthers.setCell _ _ _).from _, keep_grown (G.set (World.grownBy.refl _ (some T2)) 0 _) (fun r e => by injection e; omega), SY.out.other (row := some T2) (G.set (World.grownBy.refl _ _) 0 _) (fun y e => by injection e with e; subst e; exact ⟨hTb2, hne9, by simp; omega⟩), ?_⟩
                rw [List.length_append]
                exact bm.set _
              case done2 =>
                rintro D2 ys V hD2 rfl ⟨SY, bm⟩ hK2
                have SY : Hid _ := SY.out.mark (D := D2) (by omega) hK2
                have bm : Boxed V T2 3 (.int .i64 (held M1 : Int)) := bm
                have cm := bm.cell
                have cr := SY.out.r.cell
                have fr := SY.out.r.frozen
                have HF : Hid _ := SY.out.leave (by omega)
                clear hK2 S9 bm9 SY bm
                gi_wp2_with (fail)
                rw [roundsIn_succ]
                gi_wp2_with (fail)
                refine ⟨by simp, .inl ⟨_, _, rfl, run_takeDeferred HF.out.1, by simp, .inl ⟨_, _, rfl, run_takeDeferred HF.out.2.1, ?_⟩⟩⟩
                have b9 := HF.out.2.2.1
                exact ⟨.bool true, by simp [results, Try.results6, go_sem, b9], rfl, HF.out.2.2.2⟩
              case stop2 =>
                rintro D c pre V _ _ h _
                exact h.elim
        case stop =>
          rintro D c pre V _ ⟨mm, hmm, rfl⟩ ⟨rfl, h⟩ _
          exact absurd (lives_rises L mm hmm).1 h
    · clear RR f8
      have Q2 : Hid _ := len_any qq ql M0 wr SY.out.q
      have cq := SY.out.b.cell
      gi_wp2_with (fail)
      refine ⟨trivial, CallsIn.mono (callsIn_wide.2 Q2.out) ?_⟩
      rintro e V7 ⟨rfl, hb7⟩
      have SY : Hid _ := SY.out.step hb7
      have cq := SY.out.b.cell
      clear hb7 Q2
      gi_wp2_with (fail)
      rw [roundsIn_succ]
      gi_wp2_with (refine ⟨trivial, ?_⟩; gi_at_call 24; refine (callsIn_wide.2 (all_in _ _)).mono ?_; rintro e w' ⟨rfl, rfl⟩)
      obtain ⟨T, hT⟩ : ∃ n, n = V7.heap.size := ⟨_, rfl⟩
      obtain ⟨W0, hW0⟩ : ∃ W, W = V7.alloc (.cells #[.pointer (some ⟨pp, 0, none⟩)] 24) := ⟨_, rfl⟩
      have S0y : Sy w W0 S bq base pp pl qq ql [] L M0 (.slice a8 H.length k8) H := by rw [hW0]; exact SY.out.step ((Below.refl _ _).alloc (Nat.le_refl _) _)
      have hbs0 : W0.cell? ⟨T, 0, none⟩ = some (.pointer (some ⟨pp, 0, none⟩)) := by rw [hW0, hT]; simp
      have hz0 : W0.heap.size = T + 1 := by rw [hW0, hT]; simp
      have hTb : base ≤ T := by have := SY.out.bs; omega
      rw [← hT]
      rw [← hW0]
      clear hT hW0 SY cq
      have HL0 : Hid (M0 = laid L (rm + 1) [].reverse) := HM0
      have o2 := S0y.o2
      have o3 := S0y.o3
      refine' range_by h1 (gf := 33) (lb := #[.pointer (some ⟨T, 0, none⟩)]) rfl (enters_of Try.func33 (by kernel_rfl) rfl)
        (all_tells (12 - 1) (by omega) T pp pl L W0 S0y.p hbs0) (fun h k => Keep.trans h k) (fun _ _ _ o' _ h hc => keep_b o' h hc) (fun _ => rfl)
        (fun pre V => Hid (Sy w V S bq base pp pl qq ql [] L (laid L (rm + 1) pre.reverse) (.slice a8 H.length k8) H) ∧ pre.Pairwise (fun a b => a.1.val ≠ b.1.val))
        (fun c pre V => c = .ret ∧ ¬ pre.Pairwise (fun a b => a.1.val ≠ b.1.val))
        (fun s A B row hs hg hr => ⟨hs.1.out.own hg hr (by omega) (fun D hD => absurd hD (by simp)), hs.2⟩)
        (fun c s A B row hs hg hr => hs)
        ⟨by show Sy _ _ _ _ _ _ _ _ _ _ _ _ _ _; rw [← HL0.out]; exact S0y, List.Pairwise.nil⟩ _ ?assign ?body ?done ?stop
      case assign =>
        intro l x W K hK
        unfold encA
        gi_wp2
        exact hK
      case body =>
        rintro l pre x V ⟨SY, hpw⟩ hlen
        have hi := x.1.isLt
        have hll := HLL.out
        have hM : (laid L (rm + 1) pre.reverse).length = rm + 1 := laid_length _ _ _
        have hat := laid_at L (rm + 1) (by omega) pre.reverse x.1.val hi
        obtain ⟨k0, k1, k2⟩ := S0y.p.okAt x.1.val
        have k3 : (at_ L x.1.val).age ≤ 1073741824 := k2 x.2
        have k0' : 0 ≤ (at_ L x.1.val).age := k0
        have hx : at_ L x.1.val = ⟨(at_ L x.1.val).age, true, (at_ L x.1.val).x⟩ := by
          have h2 := x.2
          generalize at_ L x.1.val = P at *
          obtain ⟨p1, p2, p3⟩ := P
          simp only at h2
          rw [h2]
        have cq := SY.out.b.cell
        have cr := SY.out.r.cell
        have fr := SY.out.r.frozen
        have hlt9 : x.1.val < (laid L (rm + 1) pre.reverse).length := by omega
        unfold handleOf
        by_cases hin : ∃ y ∈ pre.reverse, y.1.val = x.1.val
        · rw [if_pos hin] at hat
          have Q := lay_no qq ql _ (at_ L x.1.val).age (at_ L x.1.val).x x.1.val V SY.out.q hlt9 (by rw [hat]; exact x.2) k0' (by omega)
          have HQ : Hid _ := Q
          have hnot : Hid (¬ (pre ++ [x]).Pairwise (fun a b => a.1.val ≠ b.1.val)) := by
            intro h
            obtain ⟨y, hy, hyx⟩ := hin
            exact (List.pairwise_append.1 h).2.2 y (List.mem_reverse.1 hy) x (by simp) hyx
          clear Q hin hat hx hpw k0 k1 k2
          generalize (at_ L x.1.val).age * 65536 + (x.1.val : Int) + 1 = hv at *
          generalize (at_ L x.1.val).x = xv at *
          gi_wp2_with (fail)
          refine ⟨trivial, CallsIn.mono (CallsIn.inRound l (callsIn_wide.2 HQ.out)) ?_⟩
          rintro e V2 ⟨rfl, rfl⟩
          gi_wp2_with (fail)
          refine ⟨trivial, ?_⟩
          gi_wp2_with (fail)
          exact ⟨(KeepsOthers.setCell _ _ _).from _, rfl, hnot.out⟩
        · rw [if_neg hin] at hat
          have Q := lay_yes qq ql _ (at_ L x.1.val).age (at_ L x.1.val).x x.1.val V SY.out.q hlt9 (by rw [hat]) k0' k3 (by rw [hat]; exact k0')
          rw [← hx] at Q
          have hset : (laid L (rm + 1) pre.reverse).set x.1.val (at_ L x.1.val) = laid L (rm + 1) (pre ++ [x]).reverse := by rw [List.reverse_append]; rfl
          rw [hset] at Q
          have HQ : Hid _ := Q
          have hyes : Hid ((pre ++ [x]).Pairwise (fun a b => a.1.val ≠ b.1.val)) := List.pairwise_append.2 ⟨hpw, List.pairwise_singleton _ _, fun a ha b hb => by simp at hb; subst hb; exact fun e => hin ⟨a, List.mem_reverse.2 ha, e⟩⟩
          have hat2 : Hid ((at_ (laid L (rm + 1) (pre ++ [x]).reverse) x.1.val).has = true) := by show _ = _; rw [← hset, at_set_same hlt9]; exact x.2
          have hlt8 : x.1.val < (laid L (rm + 1) (pre ++ [x]).reverse).length := by rw [laid_length]; omega
          have N2 : Hid (∀ V2 : World, IsPool V2 qq ql (laid L (rm + 1) (pre ++ [x]).reverse) → Calls Try.prog 11 #[.pointer (some ⟨qq, 0, none⟩), .int .i64 ((at_ L x.1.val).age * 65536 + (x.1.val : Int) + 1), .int .i64 (at_ L x.1.val).x] V2 fun e w' => e = .returned (.bool false) ∧ w' = V2) :=
            fun V2 h2 => lay_no qq ql _ (at_ L x.1.val).age (at_ L x.1.val).x x.1.val V2 h2 hlt8 hat2.out k0' (by omega)
          clear Q hin hat hx hpw k0 k1 k2 hset hat2 hlt8 hlt9 hM
          generalize (at_ L x.1.val).age * 65536 + (x.1.val : Int) + 1 = hv at *
          generalize (at_ L x.1.val).x = xv at *
          gi_wp2_with (fail)
          refine ⟨trivial, CallsIn.mono (CallsIn.inRound l (callsIn_wide.2 HQ.out)) ?_⟩
          rintro e V2 ⟨rfl, hq2, hg2⟩
          have SY2 : Hid _ := SY.out.turnQ hq2 hg2
          have cq := SY2.out.b.cell
          have N3 : Hid _ := N2.out V2 hq2
          have hlq : ql < W0.heap.size := by omega
          have HG2 : Hid _ := hg2
          clear N2 hq2 hg2 HQ
          gi_wp2_with (fail)
          refine ⟨trivial, CallsIn.mono (CallsIn.inRound l (callsIn_wide.2 N3.out)) ?_⟩
          rintro e V3 ⟨rfl, rfl⟩
          gi_wp2_with (fail)
          exact ⟨KeepsFrom.of_grownBy HG2.out (fun j e => by injection e; omega), keep_grown HG2.out (fun r e => by injection e; omega), SY2, hyes.out⟩
      case done =>
        rintro D1 ys V hD1 rfl ⟨SY, hpw⟩ hK1
        obtain ⟨M1, hM1⟩ : ∃ M, M = laid L (rm + 1) (lives L (ups L.length L.length)).reverse := ⟨_, rfl⟩
        rw [← hM1] at SY
        have SY : Hid _ := SY.out.mark (D := D1) (by omega) hK1
        clear hM1 hpw HL0 S0y
        have Q2 : Hid _ := len_any qq ql M1 V SY.out.q
        have cq := SY.out.b.cell
        gi_wp2_with (fail)
        refine ⟨trivial, CallsIn.mono (callsIn_wide.2 Q2.out) ?_⟩
        rintro e V6 ⟨rfl, hb6⟩
        have SY : Hid _ := SY.out.step hb6
        clear hb6 Q2 hK1 cq
        gi_wp2_with (fail)
        gi_loopw [12, 18] (fun v12 v18 wr => ∃ (n : Nat) (L : List Pl) (H : List Int), v18 = .int .i64 (n : Int) ∧ n ≤ len2 ∧ n ≤ 100 ∧ Hid (Sy w wr S bq base pp pl qq ql [D1] L M1 v12 H) ∧ H.length ≤ 100 + n ∧ Hid (L.length = rm + 1)) (fun _ i _ => len2 - (intOf i).toNat)
        case atStart => exact ⟨0, _, _, rfl, Nat.zero_le _, Nat.zero_le _, SY, by omega, HLL⟩
        case round =>
          clear SY HLL
          obtain ⟨n, L, H, rfl, hn1, hn2, SY, hHn, HLL⟩ := hrel
          obtain ⟨a8, k8, e8, l8, f8⟩ := SY.out.o.form
          subst e8
          have RR : Hid (wr.ownsRow base 36 1 (.slice a8 H.length k8) H.length (H.map (.int .i64))) := (by have h := SY.out.o; unfold Owns at h; rw [List.length_map] at h; exact h)
          rw [List.length_map] at l8 f8
          simp only [List.length_map] at SY
          simp only [List.length_map]
          have hbs := SY.out.bs
          by_cases hlt : n < len2
          · by_cases hlt2 : n < 100
            · obtain ⟨b, off, ha, hcells⟩ := HS2.out.2.1.resolve_left (by omega)
              subst ha
              obtain ⟨s0, s1, s2, s3⟩ := hcells n hlt
              obtain ⟨⟨p0, p1⟩, ⟨p2, p3⟩⟩ := HS2.out.2.2 n hlt
              have hblt : b < w.heap.size := World.block_lt_of_cell? _ _ s0
              have d0 := (SY.out.below.cell (p := ⟨b, off + n * 4, none⟩) hblt).trans s0
              have d1 := (SY.out.below.cell (p := ⟨b, off + n * 4 + 1, none⟩) hblt).trans s1
              have d2 := (SY.out.below.cell (p := ⟨b, off + n * 4 + 2, none⟩) hblt).trans s2
              clear hcells s0 s1 s2 s3
              gi_wp2_with (fail)
              refine ⟨trivial, (callsIn_wide.2 (pick_any (tw n) 2 wr p0 p1 (by omega) (by omega))).mono ?_⟩
              rintro e V9 ⟨qv, rfl, q1, q2, rfl⟩
              rcases (show qv = 0 ∨ qv = 1 by omega) with rfl | rfl
              · gi_wp2_with (fail)
                refine ⟨trivial, (callsIn_wide.2 (put_some pp pl L (tx n) V9 SY.out.p)).mono ?_⟩
                rintro e V1 ⟨hd, fv, L1, rfl, hfv, hd0, hd1, HL1, hp1, hg1⟩
                have HLL1 : Hid (L1.length = rm + 1) := HL1.out.trans HLL.out
                have SY1 : Hid _ := SY.out.turnP hp1 hg1
                have hbs1 : base ≤ V1.heap.size := SY1.out.bs
                rcases hfv with rfl | rfl
                · have R8 : Hid (V1.ownsRow base 36 1 (.slice a8 H.length k8) H.length (H.map (.int .i64))) := (by have h := SY1.out.o; unfold Owns at h; rw [List.length_map] at h; exact h)
                  clear hp1 hg1 SY RR f8 d0 d1 d2
                  gi_wp2_with (gi_at_builtin; refine wpListIn_append_own _ rfl _ _ 50 rfl base 36 ih (.int .i64 0) 1 8 Try.underlying50 HH.out.1 HH.out.2.1 HH.out.2.2.1 HH.out.2.2.2 rfl (by decide) _ _ _ rfl (World.ownsRow.alloc R8.out _) ⟨V1.heap.size, 0, none⟩ 1 1 [.int .i64 hd] rfl rfl (cell_one_new _ _ _) (ints_oneCell .i64 [hd]) (by unfold maxLen; omega) (by omega) (by simp; omega) ?_; intro v8 V2 r8 g8 _; obtain ⟨gg8, kk8, rfl⟩ := ownsRow_succ r8; have SY2 : Hid _ := SY1.out.app hd0 hd1 r8 g8; clear r8 g8 R8)
                  go_roundw
                  case rel => exact ⟨n + 1, L1, H ++ [hd], by go_num, by omega, by omega, SY2, by simp; omega, HLL1⟩
                  case measure => simp [intOf]; omega
                · clear hp1 hg1 SY RR f8 d0 d1 d2
                  gi_wp2_with (fail)
                  go_roundw
                  case rel => exact ⟨n + 1, L1, H, by go_num, by omega, by omega, SY1, by omega, HLL1⟩
                  case measure => simp [intOf]; omega
              · by_cases hH : 0 < H.length
                · gi_wp2_with (fail)
                  refine ⟨trivial, (callsIn_wide.2 (pick_any (tn n) H.length V9 p2 p3 (by omega) (by omega))).mono ?_⟩
                  rintro e V8 ⟨qv, rfl, q1, q2, rfl⟩
                  obtain ⟨kx, hkx⟩ : ∃ k : Nat, qv = (k : Int) := ⟨qv.toNat, by omega⟩
                  subst hkx
                  have hk : kx < H.length := by omega
                  obtain ⟨g8, e8, b8, t8, c8, z8⟩ := f8 hH
                  subst e8
                  have x8 := (c8 kx hk).trans (map_int hk)
                  have hm : (H[kx]?.getD 0) ≤ 1000000000000000 := by
                    rw [List.getElem?_eq_getElem hk]
                    exact (SY.out.hs _ (List.getElem_mem hk)).2
                  generalize H[kx]?.getD 0 = hv at x8 hm
                  have D := drop_any pp pl L hv V8 SY.out.p (by omega)
                  have HD : Hid _ := D
                  clear D c8 z8 d0 d1 d2 RR
                  gi_wp2_with (fail)
                  refine ⟨trivial, CallsIn.mono (callsIn_wide.2 HD.out) ?_⟩
                  rintro e V1 ⟨bv, L1, rfl, HL1, hp1, hg1⟩
                  have HLL1 : Hid (L1.length = rm + 1) := HL1.out.trans HLL.out
                  have SY1 : Hid _ := SY.out.turnP hp1 hg1
                  clear hp1 hg1 SY HD x8
                  gi_wp2_with (fail)
                  go_roundw
                  case rel => exact ⟨n + 1, L1, H, by go_num, by omega, by omega, SY1, by omega, HLL1⟩
                  case measure => simp [intOf]; omega
                · clear RR f8 d0 d1 d2
                  gi_wp2_with (fail)
                  go_roundw
                  case rel => exact ⟨n + 1, L, H, by go_num, by omega, by omega, SY, by omega, HLL⟩
                  case measure => simp [intOf]; omega
            · obtain rfl : n = 100 := by omega
              clear RR f8
              have Q2 : Hid _ := len_any qq ql M1 wr SY.out.q
              have cq := SY.out.b.cell
              gi_wp2_with (fail)
              refine ⟨trivial, CallsIn.mono (callsIn_wide.2 Q2.out) ?_⟩
              rintro e V7 ⟨rfl, hb7⟩
              have SY : Hid _ := SY.out.step hb7
              have cq := SY.out.b.cell
              clear hb7 Q2
              have cq2 : (V7.alloc (.cells #[.int .i64 0] 3)).cell? ⟨bq, 0, none⟩ = some (.pointer (some ⟨qq, 0, none⟩)) := (SY.out.b.alloc _).cell
              gi_wp2_with (refine ⟨trivial, ?_⟩; gi_at_call 24; refine (callsIn_wide.2 (all_in _ _)).mono ?_; rintro e w' ⟨rfl, rfl⟩)
              obtain ⟨T2, hT2⟩ : ∃ n, n = V7.heap.size := ⟨_, rfl⟩
              obtain ⟨W9, hW9⟩ : ∃ W, W = (V7.alloc (.cells #[.int .i64 0] 3)).alloc (.cells #[.pointer (some ⟨qq, 0, none⟩)] 24) := ⟨_, rfl⟩
              have S9 : Sy w W9 S bq base pp pl qq ql [D1] L M1 (.slice a8 H.length k8) H := by rw [hW9]; exact SY.out.step (((Below.refl _ _).alloc (Nat.le_refl _) _).alloc (by simp) _)
              have bm9 : Boxed W9 T2 3 (.int .i64 0) := by rw [hW9, hT2]; exact (Boxed.new V7 3 (.int .i64 0)).alloc _
              have hbs9 : W9.cell? ⟨T2 + 1, 0, none⟩ = some (.pointer (some ⟨qq, 0, none⟩)) := by rw [hW9, hT2]; simp [go_sem]
              have hz9 : W9.heap.size = T2 + 2 := by rw [hW9, hT2]; simp
              have hTb2 : base ≤ T2 := by have := SY.out.bs; omega
              have hD9 : D1 < T2 := by rw [hT2]; exact (Array.getElem?_eq_some_iff.1 (SY.out.marks D1 (by simp)).2).1
              have hne9 : some T2 ≠ (Value.slice a8 H.length k8).ownBlock := fun e => by have := (World.ownsRow.lt SY.out.o _ e.symm).2; omega
              have o29 := S9.o2
              rw [← hW9, ← hT2]
              clear hW9 hT2 SY cq cq2
              refine' range_by h1 (gf := 33) (lb := #[.pointer (some ⟨T2 + 1, 0, none⟩)]) rfl (enters_of Try.func33 (by kernel_rfl) rfl)
                (all_tells (12 - 1) (by omega) (T2 + 1) qq ql M1 W9 S9.q hbs9) (fun h k => Keep.trans h k) (fun _ _ _ o' _ h hc => keep_b o' h hc) (fun _ => rfl)
                (fun pre V => Hid (Sy w V S bq base pp pl qq ql [D1] L M1 (.slice a8 H.length k8) H) ∧ Boxed V T2 3 (.int .i64 (pre.length : Int)))
                (fun _ _ _ => False)
                (fun s A B row hs hg hr => ⟨hs.1.out.own hg hr (by omega) (fun D hD => by simp at hD; omega), box_own hs.2 hg hr⟩)
                (fun _ _ _ _ _ hs _ _ => hs)
                ⟨S9, bm9⟩ _ ?assign2 ?body2 ?done2 ?stop2
              case assign2 =>
                intro l x W K hK
                unfold encA
                gi_wp2
                exact hK
              case body2 =>
                rintro l pre x V ⟨SY, bm⟩ hlen
                have hr := SY.out.q.room
                have hl : pre.length < 1024 := by omega
                obtain ⟨f1, f2, f3⟩ := found_live SY.out.q x
                have HG : Hid _ := get_yes qq ql M1 _ _ V SY.out.q (by omega) f1
                have cq := SY.out.b.cell
                have cm := bm.cell
                have fm := bm.frozen
                clear f1 hr hlen
                generalize handleOf (at_ M1 x.1.val) x.1.val = hv at *
                generalize (at_ M1 x.1.val).x = xv at *
                gi_wp2_with (fail)
                refine ⟨trivial, CallsIn.mono (CallsIn.inRound l (callsIn_wide.2 HG.out)) ?_⟩
                rintro e V2 ⟨rfl, rfl⟩
                gi_wp2_with (fail)
                refine ⟨(KeepsOthers.setCell _ _ _).from _, keep_grown (G.set (World.grownBy.refl _ (some T2)) 0 _) (fun r e => by injection e; omega), SY.out.other (row := some T2) (G.set (World.grownBy.refl _ _) 0 _) (fun y e => by injection e with e; subst e; exact ⟨hTb2, hne9, by simp; omega⟩), ?_⟩
                rw [List.length_append]
                exact bm.set _
              case done2 =>
                rintro D2 ys V hD2 rfl ⟨SY, bm⟩ hK2
                have SY : Hid _ := SY.out.mark (D := D2) (by omega) hK2
                have bm : Boxed V T2 3 (.int .i64 (held M1 : Int)) := bm
                have cm := bm.cell
                have cr := SY.out.r.cell
                have fr := SY.out.r.frozen
                have HF : Hid _ := SY.out.leave (by omega)
                clear hK2 S9 bm9 SY bm
                gi_wp2_with (fail)
                rw [roundsIn_succ]
                gi_wp2_with (fail)
                refine ⟨by simp, .inl ⟨_, _, rfl, run_takeDeferred HF.out.1, by simp, .inl ⟨_, _, rfl, run_takeDeferred HF.out.2.1, ?_⟩⟩⟩
                have b9 := HF.out.2.2.1
                exact ⟨.bool true, by simp [results, Try.results6, go_sem, b9], rfl, HF.out.2.2.2⟩
              case stop2 =>
                rintro D c pre V _ _ h _
                exact h.elim
          · clear RR f8
            have Q2 : Hid _ := len_any qq ql M1 wr SY.out.q
            have cq := SY.out.b.cell
            gi_wp2_with (fail)
            refine ⟨trivial, CallsIn.mono (callsIn_wide.2 Q2.out) ?_⟩
            rintro e V7 ⟨rfl, hb7⟩
            have SY : Hid _ := SY.out.step hb7
            have cq := SY.out.b.cell
            clear hb7 Q2
            have cq2 : (V7.alloc (.cells #[.int .i64 0] 3)).cell? ⟨bq, 0, none⟩ = some (.pointer (some ⟨qq, 0, none⟩)) := (SY.out.b.alloc _).cell
            gi_wp2_with (refine ⟨trivial, ?_⟩; gi_at_call 24; refine (callsIn_wide.2 (all_in _ _)).mono ?_; rintro e w' ⟨rfl, rfl⟩)
            obtain ⟨T2, hT2⟩ : ∃ n, n = V7.heap.size := ⟨_, rfl⟩
            obtain ⟨W9, hW9⟩ : ∃ W, W = (V7.alloc (.cells #[.int .i64 0] 3)).alloc (.cells #[.pointer (some ⟨qq, 0, none⟩)] 24) := ⟨_, rfl⟩
            have S9 : Sy w W9 S bq base pp pl qq ql [D1] L M1 (.slice a8 H.length k8) H := by rw [hW9]; exact SY.out.step (((Below.refl _ _).alloc (Nat.le_refl _) _).alloc (by simp) _)
            have bm9 : Boxed W9 T2 3 (.int .i64 0) := by rw [hW9, hT2]; exact (Boxed.new V7 3 (.int .i64 0)).alloc _
            have hbs9 : W9.cell? ⟨T2 + 1, 0, none⟩ = some (.pointer (some ⟨qq, 0, none⟩)) := by rw [hW9, hT2]; simp [go_sem]
            have hz9 : W9.heap.size = T2 + 2 := by rw [hW9, hT2]; simp
            have hTb2 : base ≤ T2 := by have := SY.out.bs; omega
            have hD9 : D1 < T2 := by rw [hT2]; exact (Array.getElem?_eq_some_iff.1 (SY.out.marks D1 (by simp)).2).1
            have hne9 : some T2 ≠ (Value.slice a8 H.length k8).ownBlock := fun e => by have := (World.ownsRow.lt SY.out.o _ e.symm).2; omega
            have o29 := S9.o2
            rw [← hW9, ← hT2]
            clear hW9 hT2 SY cq cq2
            refine' range_by h1 (gf := 33) (lb := #[.pointer (some ⟨T2 + 1, 0, none⟩)]) rfl (enters_of Try.func33 (by kernel_rfl) rfl)
              (all_tells (12 - 1) (by omega) (T2 + 1) qq ql M1 W9 S9.q hbs9) (fun h k => Keep.trans h k) (fun _ _ _ o' _ h hc => keep_b o' h hc) (fun _ => rfl)
              (fun pre V => Hid (Sy w V S bq base pp pl qq ql [D1] L M1 (.slice a8 H.length k8) H) ∧ Boxed V T2 3 (.int .i64 (pre.length : Int)))
              (fun _ _ _ => False)
              (fun s A B row hs hg hr => ⟨hs.1.out.own hg hr (by omega) (fun D hD => by simp at hD; omega), box_own hs.2 hg hr⟩)
              (fun _ _ _ _ _ hs _ _ => hs)
              ⟨S9, bm9⟩ _ ?assign2 ?body2 ?done2 ?stop2
            case assign2 =>
              intro l x W K hK
              unfold encA
              gi_wp2
              exact hK
            case body2 =>
              rintro l pre x V ⟨SY, bm⟩ hlen
              have hr := SY.out.q.room
              have hl : pre.length < 1024 := by omega
              obtain ⟨f1, f2, f3⟩ := found_live SY.out.q x
              have HG : Hid _ := get_yes qq ql M1 _ _ V SY.out.q (by omega) f1
              have cq := SY.out.b.cell
              have cm := bm.cell
              have fm := bm.frozen
              clear f1 hr hlen
              generalize handleOf (at_ M1 x.1.val) x.1.val = hv at *
              generalize (at_ M1 x.1.val).x = xv at *
              gi_wp2_with (fail)
              refine ⟨trivial, CallsIn.mono (CallsIn.inRound l (callsIn_wide.2 HG.out)) ?_⟩
              rintro e V2 ⟨rfl, rfl⟩
              gi_wp2_with (fail)
              refine ⟨(KeepsOthers.setCell _ _ _).from _, keep_grown (G.set (World.grownBy.refl _ (some T2)) 0 _) (fun r e => by injection e; omega), SY.out.other (row := some T2) (G.set (World.grownBy.refl _ _) 0 _) (fun y e => by injection e with e; subst e; exact ⟨hTb2, hne9, by simp; omega⟩), ?_⟩
              rw [List.length_append]
              exact bm.set _
            case done2 =>
              rintro D2 ys V hD2 rfl ⟨SY, bm⟩ hK2
              have SY : Hid _ := SY.out.mark (D := D2) (by omega) hK2
              have bm : Boxed V T2 3 (.int .i64 (held M1 : Int)) := bm
              have cm := bm.cell
              have cr := SY.out.r.cell
              have fr := SY.out.r.frozen
              have HF : Hid _ := SY.out.leave (by omega)
              clear hK2 S9 bm9 SY bm
              gi_wp2_with (fail)
              rw [roundsIn_succ]
              gi_wp2_with (fail)
              refine ⟨by simp, .inl ⟨_, _, rfl, run_takeDeferred HF.out.1, by simp, .inl ⟨_, _, rfl, run_takeDeferred HF.out.2.1, ?_⟩⟩⟩
              have b9 := HF.out.2.2.1
              exact ⟨.bool true, by simp [results, Try.results6, go_sem, b9], rfl, HF.out.2.2.2⟩
            case stop2 =>
              rintro D c pre V _ _ h _
              exact h.elim
      case stop =>
        rintro D c pre V _ ⟨mm, hmm, rfl⟩ ⟨rfl, h⟩ _
        exact absurd (lives_rises L mm hmm).1 h


/-! ### The row's step, after the guide's template -/
set_option maxRecDepth 100000 in
theorem lifted (os : Os) (started : os.Started) (H : Type) (enc : TypeId × Value → H) :
    ReturnsInHanded {} Try.checked os 6 .any (Rows.poolLaysSpec.pre6 enc Try.prog Try.f6 Rows.poolLaysRow.domain false) (Rows.poolLaysSpec.post enc Try.prog Try.f6 false true false false) := by
  refine returnsInHanded_of_change (C := Try.checked) own started (by kernel_rfl) Try.func6
    (ChangeSpec.witness6 (enc := enc) (C := Try.checked) false ⟨#[], #[.int .i64 0, .slice none 0 0, .slice none 0 0], []⟩ 8 (by kernel_rfl) (by kernel_rfl) (by kernel_rfl) (by kernel_rfl)) ?_
  intro W base args ds gs before hval0 hW hcnd _
  have hval : ∀ (j : Nat) t v, Try.f6.params[j]? = some t → args[j]? = some v → Value.okWide Try.prog W .any base t v := hval0
  have hW' := hW
  obtain ⟨p, q, hA0, hV, rfl, hfz, hnd⟩ := hW
  have hA : DataW.TrodAll enc Try.prog W 0 (fun _ => true) true Try.f6.params.toList args.toList ds p := hA0
  rw [Try.params6] at hA hval
  obtain ⟨v0, vs0, d0, ds0, p0, q0, hargs, rfl, rfl, h0, r0⟩ := trodAll_cons hA
  obtain ⟨v1, vs1, d1, ds1, p1, q1, rfl, rfl, rfl, h1, r1⟩ := trodAll_cons r0
  obtain ⟨v2, vs2, d2, ds2, p2, q2, rfl, rfl, rfl, h2, r2⟩ := trodAll_cons r1
  obtain ⟨rfl, rfl, rfl⟩ := trodAll_nil r2
  obtain rfl : args = #[v0, v1, v2] := by cases args; simp_all
  obtain ⟨rfl, rfl⟩ := trodVars_none hV
  obtain ⟨a0, rfl, rfl, rfl, w0⟩ := open_int Try.underlying3 (hval 0 3 v0 rfl rfl) h0
  obtain ⟨a1, len1, cap1, rfl⟩ := okWide_slice Try.underlying22 (hval 1 22 v1 rfl rfl)
  obtain ⟨a2, len2, cap2, rfl⟩ := okWide_slice Try.underlying22 (hval 2 22 v2 rfl rfl)
  have k1 := h1
  have k2 := h2
  have lt1 : ∀ x ∈ p1, x.block < W.heap.size := by obtain ⟨m, hm⟩ := k1; exact DataW.trod_lt m _ _ _ hm
  have lt2 : ∀ x ∈ p2, x.block < W.heap.size := by obtain ⟨m, hm⟩ := k2; exact DataW.trod_lt m _ _ _ hm
  obtain ⟨fuel, hf⟩ := h1
  obtain ⟨hl1, sw, sn, sx, sb, hs, hw⟩ := steps_of (enc := enc) (by simpa [Value.cells] using hf)
  obtain ⟨fuel2, hf2⟩ := h2
  obtain ⟨hl2, tw, tn, tx, tb, ht, hw2⟩ := steps_of (enc := enc) (by simpa [Value.cells] using hf2)
  have hb0 := bounds_i64 w0
  clear hA0 hval0
  refine (walk a1 len1 cap1 sw sn sx sb a2 len2 cap2 tw tn tx tb a0 W ⟨hl1, hs, hw⟩ ⟨hl2, ht, hw2⟩ (by omega) (by omega)).mono fun e W' ⟨he, bel⟩ => ?_
  subst he
  exact ⟨_, rfl, _, _, _, [], _, [], hW', trodAll_mk1 (shut_bool Try.underlying4 _), (trodAll_cons_mk (shut_int Try.underlying3 w0) (trodAll_cons_mk (Below.trod laidOut (by kernel_rfl) (of_decide_eq_true (by kernel_rfl)) k1 bel lt1) (trodAll_cons_mk (Below.trod laidOut (by kernel_rfl) (of_decide_eq_true (by kernel_rfl)) k2 bel lt2) trodAll_mk0))), rfl, bel.frame _, fun h => by cases h⟩

theorem over : Rows.poolLaysRow.holds Try.pinned (OpenSpec.ofChange Rows.poolLaysSpec) :=
  OpenClaim.holds_of_wide 6 Try.f6 rfl rfl rfl rfl rfl rfl rfl ⟨rfl, rfl, rfl, rfl, rfl⟩ rfl rfl rfl rfl rfl (by kernel_rfl) Try.func6 (by kernel_rfl)
    (of_decide_eq_true (by kernel_rfl)) (by unfold Func.isWrapper; first | (rw [if_pos (by decide +kernel)]; kernel_rfl) | (rw [if_neg (by decide +kernel)]; exact ⟨rfl, rfl⟩))
    (fun os started H enc _ => lifted os started H enc)

end poolLays

theorem poolLays_holds : Rows.PoolLaysSaid := poolLays.over
#print axioms poolLays_holds
end Go.Proofs.Ytchkepakbflmhaa
