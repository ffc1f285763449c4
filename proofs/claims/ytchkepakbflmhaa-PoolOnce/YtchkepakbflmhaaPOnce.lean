/- A handle is of one thing alone, for ever: true for all scripts of puts and drops. -/
import Derived.Test.YtchkepakbflmhaaOMath
import Derived.Test.YtchkepakbflmhaaRows
import Derived.Maps.AppendAt
import Derived.ProofKit
import Derived.OpenShut
import Derived.ShutString
import Derived.ChangeOld
import Derived.Deep.Grids
namespace Go.Proofs.Ytchkepakbflmhaa
namespace poolOnce
open Go.ChangeShapes Go.WideShapes Go.ChangeAt Go.RowKit Go.Shelf
set_option linter.unusedVariables false

theorem own : ownKnob Try.prog.godebug = none := by kernel_rfl
theorem laidOut : laidOutB Try.prog = true := by kernel_rfl
theorem info_h : (Try.prog.info? 36).map (fun i => (i.zero, i.size, i.bytes)) = some (some (.int .i64 0), 1, 8) := by kernel_rfl
theorem info_i : (Try.prog.info? 3).map (fun i => (i.zero, i.size, i.bytes)) = some (some (.int .i64 0), 1, 8) := by kernel_rfl
theorem info_b : (Try.prog.info? 4).map (fun i => (i.zero, i.size, i.bytes)) = some (some (.bool false), 1, 1) := by kernel_rfl

theorem pick_any (c n : Int) (w : World) (h0 : -9223372036854775808 ≤ c) (h1 : c ≤ 9223372036854775807) (hn : 0 < n) (hn' : n ≤ 9223372036854775807) :
    Calls Try.prog 10 #[.int .i64 c, .int .i64 n] w fun e w' => ∃ r : Int, e = .returned (.int .i64 r) ∧ 0 ≤ r ∧ r < n ∧ w' = w := by
  by_cases hc : c < 0
  · have hb : 0 ≤ -(c + 1) := by omega
    have hb' : -(c + 1) ≤ 9223372036854775807 := by omega
    have hz : (n == 0) = false := beq_eq_false_iff_ne.2 (by omega)
    go_enter Try.func10, Try.ntmps10
    go_wp2
    go_ret
    have e : (c + 1).tmod n = -(-(c + 1) % n) := by
      rw [← Int.tmod_eq_emod_of_nonneg hb, Int.neg_tmod, Int.neg_neg]
    have m0 := Int.emod_nonneg (-(c + 1)) (show n ≠ 0 by omega)
    have m1 := Int.emod_lt_of_pos (-(c + 1)) hn
    exact ⟨_, rfl, by rw [e]; omega, by rw [e]; omega, rfl⟩
  · have hz : (n == 0) = false := beq_eq_false_iff_ne.2 (by omega)
    go_enter Try.func10, Try.ntmps10
    go_wp2
    go_ret
    exact ⟨_, rfl, Int.emod_nonneg _ (by omega), Int.emod_lt_of_pos _ hn, rfl⟩

/-- A slice that owns what it holds. -/
def Owns (W : World) (base : Nat) (e : TypeId) (v : Value) (xs : List Value) : Prop := W.ownsRow base e 1 v xs.length xs
theorem Owns.nil (W : World) (base : Nat) (e : TypeId) : Owns W base e (.slice none 0 0) [] := World.ownsRow_nil W base e 1
theorem Owns.kept {W W' : World} {base : Nat} {e : TypeId} {v : Value} {xs : List Value} {row : Option Nat} (h : Owns W base e v xs) (hg : W.grownBy W' row) (hr : ∀ r, row = some r → r < base ∨ W.heap.size ≤ r) : Owns W' base e v xs := by
  refine World.ownsRow.kept h hg ?_
  cases hv : v.ownBlock with
  | none => exact Or.inl rfl
  | some g =>
    refine Or.inr fun e' => ?_
    obtain ⟨h1, h2⟩ := World.ownsRow.lt h g hv
    rcases hr g e'.symm with h3 | h3 <;> omega
theorem Owns.far {W W' : World} {base base' : Nat} {e e' : TypeId} {v v' : Value} {xs xs' : List Value} (h : Owns W base e v xs) (h' : Owns W base' e' v' xs') (hne : e ≠ e') (hg : W.grownBy W' v'.ownBlock) : Owns W' base e v xs := by
  refine World.ownsRow.kept h hg ?_
  cases hv : v.ownBlock with
  | none => exact Or.inl rfl
  | some g =>
    refine Or.inr fun e1 => ?_
    rcases h.2 with ⟨rfl, _⟩ | ⟨g1, cap, cur, rfl, _, hg1, _⟩
    · simp [Value.ownBlock] at hv
    · rcases h'.2 with ⟨rfl, _⟩ | ⟨g2, cap2, cur2, rfl, _, hg2, _⟩
      · simp [Value.ownBlock] at e1
      · simp only [Value.ownBlock, Option.some.injEq] at hv e1
        subst hv
        subst e1
        rw [hg1] at hg2
        cases hg2
        exact hne rfl
theorem Owns.below {W W' : World} {base : Nat} {e : TypeId} {v : Value} {xs : List Value} (h : Owns W base e v xs) (hb : Below W.heap.size W W') : Owns W' base e v xs := h.kept (row := none) (below_grown hb none) (fun r e => by cases e)
/-- A slice that owns something is written out. -/
theorem Owns.form {W : World} {base : Nat} {e : TypeId} {v : Value} {xs : List Value} (h : Owns W base e v xs) : ∃ (a : Option Addr) (cap : Nat), v = .slice a xs.length cap ∧ xs.length ≤ cap ∧ (0 < xs.length → ∃ g, a = some ⟨g, 0, none⟩ ∧ base ≤ g ∧ g < W.heap.size ∧ (∀ j, j < xs.length → W.cell? ⟨g, j, none⟩ = xs[j]?) ∧ (∀ j, W.frozen? ⟨g, j, none⟩ = false)) := by
  rcases h.2 with ⟨rfl, h0⟩ | ⟨g, cap, cur, rfl, hb, hg, hnc, _⟩
  · exact ⟨none, 0, by rw [h0], by omega, fun h1 => by omega⟩
  · refine ⟨_, cap, rfl, hnc, fun _ => ⟨g, rfl, hb, (Array.getElem?_eq_some_iff.1 hg).1, fun j hj => World.ownsRow.cellAt h j (by simpa using hj), fun j => World.ownsRow.frozenAt h j⟩⟩
theorem Owns.at {W : World} {base : Nat} {e : TypeId} {a : Option Addr} {n cap : Nat} {xs : List Value} (h : Owns W base e (.slice a n cap) xs) (m : Nat) (hm : xs.length = m) : 0 < m → ∃ g, a = some ⟨g, 0, none⟩ ∧ base ≤ g ∧ g < W.heap.size ∧ (∀ j, j < m → W.cell? ⟨g, j, none⟩ = xs[j]?) ∧ (∀ j, W.frozen? ⟨g, j, none⟩ = false) := by
  subst hm
  obtain ⟨a', cap', e', _, hf⟩ := h.form
  injection e' with e1 e2 e3
  subst e1
  exact hf
/-- Three slices, and a pool. -/
structure St (w V : World) (base pp pl : Nat) (L : List Pl) (v8 v9 v10 : Value) (x8 x9 x10 : List Value) : Prop where
  o8 : Owns V base 36 v8 x8
  o9 : Owns V base 3 v9 x9
  o10 : Owns V base 4 v10 x10
  pool : IsPool V pp pl L
  below : Below w.heap.size w V
  bs : base ≤ V.heap.size
  wb : w.heap.size ≤ base
  lp : pl < base
  pb : pp < base
  wl : w.heap.size ≤ pl
theorem St.lay {w V : World} {base pp pl : Nat} {L : List Pl} {v8 v9 v10 : Value} {x8 x9 x10 : List Value} (h : St w V base pp pl L v8 v9 v10 x8 x9 x10) (o : Obj) : St w (V.alloc o) base pp pl L v8 v9 v10 x8 x9 x10 := by
  have hb : Below V.heap.size V (V.alloc o) := (Below.refl _ _).alloc (Nat.le_refl _) _
  exact ⟨h.o8.below hb, h.o9.below hb, h.o10.below hb, h.pool.below hb, h.below.trans (hb.mono h.below.size), Nat.le_trans h.bs hb.size, h.wb, h.lp, h.pb, h.wl⟩
theorem owns_block {V : World} {base : Nat} {e : TypeId} {v : Value} {xs : List Value} (h : Owns V base e v xs) : ∀ r, v.ownBlock = some r → base ≤ r := fun r e => (World.ownsRow.lt h r e).1
theorem St.app8 {w V V2 : World} {base pp pl : Nat} {L : List Pl} {v8 v9 v10 : Value} {x8 x9 x10 : List Value} (h : St w V base pp pl L v8 v9 v10 x8 x9 x10) {o : Obj} {v : Value} {u : Value} (hr : V2.ownsRow base 36 1 v (x8.length + 1) (x8 ++ [u])) (hg : (V.alloc o).grownBy V2 v8.ownBlock) : St w V2 base pp pl L v v9 v10 (x8 ++ [u]) x9 x10 := by
  have k := h.lay o
  have hb := owns_block k.o8
  refine ⟨?_, k.o9.far k.o8 (by decide) hg, k.o10.far k.o8 (by decide) hg, k.pool.grown hg (fun e => ?_) (fun e => ?_), k.below.grown hg k.below.size (fun j e => ?_), Nat.le_trans k.bs hg.size, h.wb, h.lp, h.pb, h.wl⟩
  · unfold Owns; rw [List.length_append]; exact hr
  · have h1 := hb pl e.symm; have h2 := h.lp; omega
  · have h1 := hb pp e.symm; have h2 := h.pb; omega
  · have h1 := hb j e; have h2 := h.wb; omega
theorem St.app9 {w V V2 : World} {base pp pl : Nat} {L : List Pl} {v8 v9 v10 : Value} {x8 x9 x10 : List Value} (h : St w V base pp pl L v8 v9 v10 x8 x9 x10) {o : Obj} {v : Value} {u : Value} (hr : V2.ownsRow base 3 1 v (x9.length + 1) (x9 ++ [u])) (hg : (V.alloc o).grownBy V2 v9.ownBlock) : St w V2 base pp pl L v8 v v10 x8 (x9 ++ [u]) x10 := by
  have k := h.lay o
  have hb := owns_block k.o9
  refine ⟨k.o8.far k.o9 (by decide) hg, ?_, k.o10.far k.o9 (by decide) hg, k.pool.grown hg (fun e => ?_) (fun e => ?_), k.below.grown hg k.below.size (fun j e => ?_), Nat.le_trans k.bs hg.size, h.wb, h.lp, h.pb, h.wl⟩
  · unfold Owns; rw [List.length_append]; exact hr
  · have h1 := hb pl e.symm; have h2 := h.lp; omega
  · have h1 := hb pp e.symm; have h2 := h.pb; omega
  · have h1 := hb j e; have h2 := h.wb; omega
theorem St.app10 {w V V2 : World} {base pp pl : Nat} {L : List Pl} {v8 v9 v10 : Value} {x8 x9 x10 : List Value} (h : St w V base pp pl L v8 v9 v10 x8 x9 x10) {o : Obj} {v : Value} {u : Value} (hr : V2.ownsRow base 4 1 v (x10.length + 1) (x10 ++ [u])) (hg : (V.alloc o).grownBy V2 v10.ownBlock) : St w V2 base pp pl L v8 v9 v x8 x9 (x10 ++ [u]) := by
  have k := h.lay o
  have hb := owns_block k.o10
  refine ⟨k.o8.far k.o10 (by decide) hg, k.o9.far k.o10 (by decide) hg, ?_, k.pool.grown hg (fun e => ?_) (fun e => ?_), k.below.grown hg k.below.size (fun j e => ?_), Nat.le_trans k.bs hg.size, h.wb, h.lp, h.pb, h.wl⟩
  · unfold Owns; rw [List.length_append]; exact hr
  · have h1 := hb pl e.symm; have h2 := h.lp; omega
  · have h1 := hb pp e.symm; have h2 := h.pb; omega
  · have h1 := hb j e; have h2 := h.wb; omega
/-- Behind a call that turns the pool alone. -/
theorem St.turn {w V V2 : World} {base pp pl : Nat} {L L2 : List Pl} {v8 v9 v10 : Value} {x8 x9 x10 : List Value} (h : St w V base pp pl L v8 v9 v10 x8 x9 x10) (hp : IsPool V2 pp pl L2) (hg : V.grownBy V2 (some pl)) : St w V2 base pp pl L2 v8 v9 v10 x8 x9 x10 := by
  have h1 := h.lp
  have h2 := h.wb
  have h4 : ∀ j, some pl = some j → j < base ∨ V.heap.size ≤ j := fun j e => by injection e; omega
  have h5 := h.below.size
  exact ⟨h.o8.kept hg h4, h.o9.kept hg h4, h.o10.kept hg h4, hp, ⟨hg.os.trans h.below.os, hg.tape.trans h.below.tape, hg.output.trans h.below.output, Nat.le_trans h5 hg.size, fun k hk => (hg.block k (by omega) (fun e => by injection e with e; subst e; exact absurd h.wl (by omega))).trans (h.below.block k hk)⟩, Nat.le_trans h.bs hg.size, h.wb, h.lp, h.pb, h.wl⟩
/-- A store into the third slice. -/
theorem St.put10 {w V : World} {base pp pl : Nat} {L : List Pl} {v8 v9 : Value} {g n cap : Nat} {x8 x9 x10 : List Value} (h : St w V base pp pl L v8 v9 (.slice (some ⟨g, 0, none⟩) n cap) x8 x9 x10) (hn : x10.length = n) (j : Nat) (u : Value) : St w (V.setCell ⟨g, j, none⟩ u) base pp pl L v8 v9 (.slice (some ⟨g, 0, none⟩) n cap) x8 x9 (x10.set j u) := by
  subst hn
  have k : V.ownsRow base 4 1 (.slice (some ⟨g, 0, none⟩) x10.length cap) x10.length x10 := h.o10
  obtain ⟨h1, hg⟩ := k.stored j u
  have hb := owns_block h.o10 g rfl
  have l1 := h.lp
  have l2 := h.pb
  have l3 := h.wb
  refine ⟨h.o8.far h.o10 (by decide) hg, h.o9.far h.o10 (by decide) hg, ?_, h.pool.grown hg (by simp; omega) (by simp; omega), h.below.grown hg h.below.size (fun j e => by injection e; omega), Nat.le_trans h.bs hg.size, h.wb, h.lp, h.pb, h.wl⟩
  unfold Owns
  rw [List.length_set]
  exact h1
theorem St.drew {w V : World} {base pp pl : Nat} {L : List Pl} {v8 v9 v10 : Value} {x8 x9 x10 : List Value} (h : St w V base pp pl L v8 v9 v10 x8 x9 x10) : St w V.drew base pp pl L v8 v9 v10 x8 x9 x10 := by
  have hg : V.grownBy V.drew (some pl) := ⟨rfl, rfl, rfl, Nat.le_refl _, fun _ _ _ => rfl⟩
  exact h.turn (h.pool.grown (row := none) ⟨rfl, rfl, rfl, Nat.le_refl _, fun _ _ _ => rfl⟩ (by simp) (by simp)) hg
theorem set_false {B : List Bool} {k : Nat} (hb : B[k]?.getD false = false) : B.set k false = B := by
  apply List.ext_getElem?
  intro i
  by_cases e : k = i
  · subst e
    by_cases h : k < B.length
    · rw [List.getElem?_set_self h]
      rw [List.getElem?_eq_getElem h] at hb ⊢
      simp at hb
      rw [hb]
    · rw [List.getElem?_eq_none (by simp; omega), List.getElem?_eq_none (by omega)]
  · rw [List.getElem?_set_ne e]
theorem app_cell {V1 V2 : World} {o : Obj} {row : Option Nat} {T j : Nat} {v : Value} (hg : (V1.alloc o).grownBy V2 row) (hc : V1.cell? ⟨T, j, none⟩ = some v) (hr : ∀ g, row = some g → g < T) : V2.cell? ⟨T, j, none⟩ = some v :=
  hg.cell ((World.cell?_alloc_past _ _ _ (World.block_lt_of_cell? _ _ hc)).trans hc) (fun e => by have := hr T e.symm; omega)
theorem map_int {l : List Int} {k : Nat} (h : k < l.length) : (l.map (Value.int .i64))[k]? = some (.int .i64 (l[k]?.getD 0)) := by simp [h]
theorem map_bool {l : List Bool} {k : Nat} (h : k < l.length) : (l.map Value.bool)[k]? = some (.bool (l[k]?.getD false)) := by simp [h]
theorem ret_bool {x y : Bool} (h : x = y) : Ending.returned (.bool x) = .returned (.bool y) := by rw [h]
set_option maxRecDepth 100000 in
set_option maxHeartbeats 16000000 in
theorem walk (a : Option Addr) (len cap : Nat) (sw sn sx : Nat → Int) (sb : Nat → Bool) (room0 : Int) (w : World) (hl0 : len ≤ 9223372036854775807)
    (hs : len = 0 ∨ ∃ b off, a = some ⟨b, off, none⟩ ∧ ∀ i, i < len → w.cell? ⟨b, off + i * 4, none⟩ = some (.int .i64 (sw i)) ∧ w.cell? ⟨b, off + i * 4 + 1, none⟩ = some (.int .i64 (sn i)) ∧ w.cell? ⟨b, off + i * 4 + 2, none⟩ = some (.int .i64 (sx i)) ∧ w.cell? ⟨b, off + i * 4 + 3, none⟩ = some (.bool (sb i)))
    (hw : ∀ i, i < len → (-9223372036854775808 ≤ sw i ∧ sw i ≤ 9223372036854775807) ∧ (-9223372036854775808 ≤ sn i ∧ sn i ≤ 9223372036854775807)) (r0 : -9223372036854775808 ≤ room0) (r1 : room0 ≤ 9223372036854775807) :
    Calls Try.prog 4 #[.int .i64 room0, .slice a len cap] w fun e w' => e = .returned (.bool true) ∧ Below w.heap.size w w' := by
  obtain ⟨ih, hih, hz0, hz1, hz2⟩ := info_parts info_h
  obtain ⟨ii, hii, iz0, iz1, iz2⟩ := info_parts info_i
  obtain ⟨ib, hib, bz0, bz1, bz2⟩ := info_parts info_b
  have HH : Hid _ := And.intro hih (And.intro hz0 (And.intro hz1 hz2))
  have HI : Hid _ := And.intro hii (And.intro iz0 (And.intro iz1 iz2))
  have HBo : Hid _ := And.intro hib (And.intro bz0 (And.intro bz1 bz2))
  have HS : Hid _ := hs
  have HW : Hid _ := hw
  clear hih hz0 hz1 hz2 hii iz0 iz1 iz2 hib bz0 bz1 bz2 hs hw
  go_enter Try.func4, Try.ntmps4
  go_wp2_with (fail)
  refine (awake_any w).mono ?_
  rintro e W1 ⟨rfl, hb1⟩
  have HB1 : Hid _ := hb1
  clear hb1
  go_wp2_with (fail)
  refine (pick_any room0 20 W1 r0 r1 (by omega) (by omega)).mono ?_
  rintro e w2 ⟨q0, rfl, q1, q2, rfl⟩
  obtain ⟨rm, hrm⟩ : ∃ rm : Nat, q0 = (rm : Int) := ⟨q0.toNat, by omega⟩
  subst hrm
  have hrm2 : rm < 20 := by omega
  clear q1 q2
  go_wp2_with (fail)
  have N := new_yes (rm + 1) w2 (by omega) (by omega)
  rw [show ((rm + 1 : Nat) : Int) = 1 + (rm : Int) by omega] at N
  refine N.mono ?_
  clear N
  rintro e W2 ⟨pp, pl, rfl, hpl, hpp, hp, hb2⟩
  have HB2 : Hid (Below w.heap.size w W2) := HB1.out.trans (hb2.mono HB1.out.size)
  have hppl : pp < W2.heap.size := World.block_lt_of_cell? _ _ hp.slice
  have hpll := hp.lt
  obtain ⟨base, hbase⟩ : ∃ n, n = W2.heap.size := ⟨_, rfl⟩
  rw [← hbase] at hppl hpll
  have hw1 : w.heap.size ≤ w2.heap.size := HB1.out.size
  clear HB1 hb2
  have hb9 : base ≤ W2.heap.size := by omega
  clear hbase
  go_wp2_with (fail)
  go_loopw [8, 9, 10, 11, 12] (fun v8 v9 v10 v11 v12 wr => ∃ (n : Nat) (L : List Pl) (H X : List Int) (B : List Bool), v12 = .int .i64 (n : Int) ∧ n ≤ len ∧ n ≤ 200 ∧ IsPool wr pp pl L ∧ L.length = rm + 1 ∧ Told n L H X B ∧ H.length ≤ n ∧ v11 = .int .i64 (cnt L : Int) ∧ Owns wr base 36 v8 (H.map (.int .i64)) ∧ Owns wr base 3 v9 (X.map (.int .i64)) ∧ Owns wr base 4 v10 (B.map .bool) ∧ Hid (Below w.heap.size w wr) ∧ base ≤ wr.heap.size) (fun _ _ _ _ i _ => len - (intOf i).toNat)
  case atStart =>
    refine ⟨0, _, [], [], [], rfl, Nat.zero_le _, Nat.zero_le _, hp, by simp, ⟨rfl, rfl, fun i hi => ?_, fun k hk => absurd hk (by simp), fun k k' hk => absurd hk (by simp)⟩, Nat.le_refl _, ?_, Owns.nil _ _ _, Owns.nil _ _ _, Owns.nil _ _ _, HB2, hb9⟩
    · rw [List.length_replicate] at hi
      simp [at_, hi]
    · rw [cnt_new]; rfl
  case round =>
    clear hp HB2 hb9
    obtain ⟨n, L, H, X, B, rfl, hn1, hn2, hp, hLl, ht, hHn, rfl, o8, o9, o10, HB, hbs⟩ := hrel
    obtain ⟨a8, k8, e8, l8, f8⟩ := o8.form
    obtain ⟨a9, k9, e9, l9, f9⟩ := o9.form
    obtain ⟨a10, k10, e10, l10, f10⟩ := o10.form
    subst e8 e9 e10
    rw [List.length_map] at l8 f8 l9 f9 l10 f10
    simp only [List.length_map] at o8 o9 o10
    rw [ht.lenX] at o9
    rw [ht.lenB] at o10
    rw [ht.lenX] at f9 l9
    rw [ht.lenB] at f10 l10
    have hcl := cnt_le L
    have hL24 : L.length ≤ 1024 := by omega
    simp only [List.length_map, ht.lenX, ht.lenB]
    by_cases hlt : n < len
    · by_cases hlt2 : n < 200
      · obtain ⟨b, off, ha, hcells⟩ := HS.out.resolve_left (by omega)
        subst ha
        obtain ⟨s0, s1, s2, s3⟩ := hcells n hlt
        obtain ⟨⟨p0, p1⟩, ⟨p2, p3⟩⟩ := HW.out n hlt
        have hblt : b < w.heap.size := World.block_lt_of_cell? _ _ s0
        have d0 := (HB.out.cell (p := ⟨b, off + n * 4, none⟩) hblt).trans s0
        have d1 := (HB.out.cell (p := ⟨b, off + n * 4 + 1, none⟩) hblt).trans s1
        have d2 := (HB.out.cell (p := ⟨b, off + n * 4 + 2, none⟩) hblt).trans s2
        have d3 := (HB.out.cell (p := ⟨b, off + n * 4 + 3, none⟩) hblt).trans s3
        clear hcells s0 s1 s2 s3
        obtain ⟨T, hT⟩ : ∃ n, n = wr.heap.size := ⟨_, rfl⟩
        obtain ⟨V, hV⟩ : ∃ V, V = wr.alloc (.cells #[.int .i64 (sw n), .int .i64 (sn n), .int .i64 (sx n), .bool (sb n)] 33) := ⟨_, rfl⟩
        have y0 : V.cell? ⟨T, 0, none⟩ = some (.int .i64 (sw n)) := by rw [hV, hT]; simp
        have y1 : V.cell? ⟨T, 1, none⟩ = some (.int .i64 (sn n)) := by rw [hV, hT]; simp
        have y2 : V.cell? ⟨T, 2, none⟩ = some (.int .i64 (sx n)) := by rw [hV, hT]; simp
        have hbV : Below wr.heap.size wr V := by rw [hV]; exact (Below.refl _ _).alloc (Nat.le_refl _) _
        have hpV := hp.below hbV
        have q8 := o8.below hbV
        have q9 := o9.below hbV
        have q10 := o10.below hbV
        have HBV : Hid (Below w.heap.size w V) := HB.out.trans (hbV.mono HB.out.size)
        have hsV : V.heap.size = T + 1 := by rw [hV, hT]; simp
        have hbT : base ≤ T := by omega
        have hTV : T < V.heap.size := by omega
        have HTl : Hid _ := ht
        have hT8 : ∀ g, (Value.slice a8 H.length k8).ownBlock = some g → base ≤ g ∧ g < T := fun g hg => by have := World.ownsRow.lt o8 g hg; omega
        have hT9 : ∀ g, (Value.slice a9 H.length k9).ownBlock = some g → base ≤ g ∧ g < T := fun g hg => by have := World.ownsRow.lt o9 g hg; omega
        have hT10 : ∀ g, (Value.slice a10 H.length k10).ownBlock = some g → base ≤ g ∧ g < T := fun g hg => by have := World.ownsRow.lt o10 g hg; omega
        have HTT : Hid _ := And.intro hT8 (And.intro hT9 hT10)
        clear hT8 hT9 hT10
        go_wp2_with (fail)
        rw [← hV]
        rw [← hT]
        clear hV hT hp o8 o9 o10 HB hbV d0 d1 d2 d3 y0 f8 f9 f10
        refine (pick_any (sw n) 2 V p0 p1 (by omega) (by omega)).mono ?_
        rintro e V9 ⟨q, rfl, q1, q2, rfl⟩
        rcases (show q = 0 ∨ q = 1 by omega) with rfl | rfl
        · go_wp2_with (fail)
          refine (put_once (sx n) hpV ht hL24 (by omega)).mono ?_
          clear ht
          rintro e V1 (⟨hd, L1, rfl, HT1, hlr, HC, HL1, HN, hd0, hd1, hp1, hg1⟩ | ⟨rfl, HC, hp1, hg1⟩)
          · have hroom : (cnt L : Int) < 1 + (rm : Int) := by omega
            obtain ⟨hT8, hT9, hT10⟩ := HTT.out
            have S1 : St w V1 base pp pl L1 _ _ _ _ _ _ := (St.mk q8 q9 q10 hpV HBV.out (by omega) (by omega) hpll hppl (by omega)).turn hp1 hg1
            have hbs : base ≤ V1.heap.size := by have := hg1.size; omega
            have y2 : V1.cell? ⟨T, 2, none⟩ = some (.int .i64 (sx n)) := hg1.cell y2 (by simp; omega)
            have f8 := S1.o8.at H.length (by simp)
            have HS1 : Hid _ := S1
            clear hg1 q8 q9 q10 HBV hpV hp1 y1 S1 hT8 hT9 hT10
            go_wp2_with (fail)
            go_loop [16] (fun v => ∃ k : Nat, k ≤ H.length ∧ v = .int .i64 (k : Int)) (fun v => H.length - (intOf v).toNat)
            case atStart => exact ⟨0, Nat.zero_le _, rfl⟩
            case round =>
              obtain ⟨kk, hkk, rfl⟩ := hrel
              by_cases hk5 : kk < H.length
              · obtain ⟨g8, e8, b8, t8, c8, z8⟩ := f8 (by omega)
                subst e8
                have x8 := (c8 kk hk5).trans (map_int hk5)
                have hne := HN.out kk hk5
                clear c8 z8
                generalize H[kk]?.getD 0 = hv at x8 hne
                have hne1 : (hv == hd) = false := beq_eq_false_iff_ne.2 hne
                clear hne
                go_wp2_with (fail)
                go_round
                case rel => exact ⟨kk + 1, by omega, by go_num⟩
                case measure => simp [intOf]; omega
              · clear f8
                have r8 : V1.ownsRow base 36 1 (.slice a8 H.length k8) H.length (H.map (.int .i64)) := by have h := HS1.out.o8; unfold Owns at h; rwa [List.length_map] at h
                have R8 : Hid _ := r8
                clear r8
                go_wp2_with (first
                  | (at_builtin; refine wpList_append_own _ rfl _ _ 50 rfl base 36 ih (.int .i64 0) 1 8 Try.underlying50 HH.out.1 HH.out.2.1 HH.out.2.2.1 HH.out.2.2.2 rfl (by decide) _ _ _ rfl (World.ownsRow.alloc R8.out _) ⟨V1.heap.size, 0, none⟩ 1 1 [.int .i64 hd] rfl rfl (cell_one_new _ _ _) (ints_oneCell .i64 [hd]) (by unfold maxLen; omega) (by omega) (by simp; omega) ?_; intro v8 V2 r8 g8 _; obtain ⟨gg8, kk8, rfl⟩ := ownsRow_succ r8; have y2b : V2.cell? ⟨T, 2, none⟩ = some (.int .i64 (sx n)) := app_cell g8 y2 (fun g e => (HTT.out.1 g e).2); have HS2 : Hid _ := HS1.out.app8 (by rw [List.length_map]; exact r8) g8; have hbs2 : base ≤ V2.heap.size := HS2.out.bs; have R9 : Hid (V2.ownsRow base 3 1 (.slice a9 H.length k9) H.length (X.map (.int .i64))) := (by have h := HS2.out.o9; unfold Owns at h; rw [List.length_map, HTl.out.lenX] at h; exact h); clear r8 g8 R8 y2 hbs)
                  | (at_builtin; refine wpList_append_own _ rfl _ _ 31 rfl base 3 ii (.int .i64 0) 1 8 Try.underlying31 HI.out.1 HI.out.2.1 HI.out.2.2.1 HI.out.2.2.2 rfl (by decide) _ _ _ rfl (World.ownsRow.alloc R9.out _) ⟨V2.heap.size, 0, none⟩ 1 1 [.int .i64 (sx n)] rfl rfl (cell_one_new _ _ _) (ints_oneCell .i64 [sx n]) (by unfold maxLen; omega) (by omega) (by simp; omega) ?_; intro v9 V3 r9 g9 _; obtain ⟨gg9, kk9, rfl⟩ := ownsRow_succ r9; have HS3 : Hid _ := HS2.out.app9 (by rw [List.length_map, HTl.out.lenX]; exact r9) g9; have hbs3 : base ≤ V3.heap.size := HS3.out.bs; have R10 : Hid (V3.ownsRow base 4 1 (.slice a10 H.length k10) H.length (B.map .bool)) := (by have h := HS3.out.o10; unfold Owns at h; rw [List.length_map, HTl.out.lenB] at h; exact h); clear r9 g9 R9 y2b hbs2)
                  | (at_builtin; refine wpList_append_own _ rfl _ _ 51 rfl base 4 ib (.bool false) 1 1 Try.underlying51 HBo.out.1 HBo.out.2.1 HBo.out.2.2.1 HBo.out.2.2.2 rfl (by decide) _ _ _ rfl (World.ownsRow.alloc R10.out _) ⟨V3.heap.size, 0, none⟩ 1 1 [.bool true] rfl rfl (cell_one_new _ _ _) (by intro u hu; simp at hu; subst hu; rfl) (by unfold maxLen; omega) (by omega) (by simp; omega) ?_; intro v10 V4 r10 g10 _; obtain ⟨gg10, kk10, rfl⟩ := ownsRow_succ r10; have HS4 : Hid _ := HS3.out.app10 (by rw [List.length_map, HTl.out.lenB]; exact r10) g10; clear r10 g10 R10 hbs3))
                clear hk5
                obtain ⟨H1, hH1⟩ : ∃ l, l = H ++ [hd] := ⟨_, rfl⟩
                obtain ⟨X1, hX1⟩ : ∃ l, l = X ++ [sx n] := ⟨_, rfl⟩
                obtain ⟨B1, hB1⟩ : ∃ l, l = B ++ [true] := ⟨_, rfl⟩
                have HT : Hid (Told (n + 1) L1 H1 X1 B1) := by show Told _ _ _ _ _; rw [hH1, hX1, hB1]; exact HT1.out.mono (by omega)
                have lH : H.length + 1 = H1.length := by rw [hH1]; simp
                have S4 : St w V4 base pp pl L1 (.slice (some ⟨gg8, 0, none⟩) (H.length + 1) kk8) (.slice (some ⟨gg9, 0, none⟩) (H.length + 1) kk9) (.slice (some ⟨gg10, 0, none⟩) (H.length + 1) kk10) (H1.map (.int .i64)) (X1.map (.int .i64)) (B1.map .bool) := by
                  rw [hH1, hX1, hB1, List.map_append, List.map_append, List.map_append]; exact HS4.out
                rw [lH] at S4
                rw [lH]
                have lH1 : H1.length ≤ n + 1 := by omega
                have hLl1 : L1.length = rm + 1 := HL1.out.trans hLl
                have hL1b : L1.length ≤ 1024 := by omega
                have HLL : Hid _ := hLl1
                have o8v := S4.o8
                have o9v := S4.o9
                have o10v := S4.o10
                have hp := S4.pool
                have HB : Hid (Below w.heap.size w V4) := S4.below
                have hbs : base ≤ V4.heap.size := S4.bs
                clear hH1 hX1 hB1 lH S4 HS1 HS2 HS3 HS4 HT1 HTl HTT hLl1
                have f8 := o8v.at H1.length (by simp)
                have f9 := o9v.at H1.length (by simp [HT.out.lenX])
                have f10 := o10v.at H1.length (by simp [HT.out.lenB])
                go_loop [18] (fun v => ∃ k : Nat, k ≤ H1.length ∧ v = .int .i64 (k : Int)) (fun v => H1.length - (intOf v).toNat)
                case atStart => exact ⟨0, Nat.zero_le _, rfl⟩
                case round =>
                  obtain ⟨kk, hkk, rfl⟩ := hrel
                  by_cases hk5 : kk < H1.length
                  · obtain ⟨g8, e8, b8, t8, c8, z8⟩ := f8 (by omega)
                    obtain ⟨g9, e9, b9, t9, c9, z9⟩ := f9 (by omega)
                    obtain ⟨g10, e10, b10, t10, c10, z10⟩ := f10 (by omega)
                    cases e8
                    cases e9
                    cases e10
                    have x8 := (c8 kk hk5).trans (map_int hk5)
                    have x9 := (c9 kk hk5).trans (map_int (by rw [HT.out.lenX]; exact hk5))
                    have x10 := (c10 kk hk5).trans (map_bool (by rw [HT.out.lenB]; exact hk5))
                    have sm := HT.out.small (by omega) (by omega) hk5
                    obtain ⟨sm0, sm1⟩ := sm
                    cases hbk : B1[kk]?.getD false with
                    | true =>
                      obtain ⟨i9, hf9, hx9⟩ := HT.out.found_yes (by omega) hk5 hbk
                      have G := get_yes pp pl L1 (H1[kk]?.getD 0) i9 V4 hp (by omega) hf9
                      rw [hx9] at G
                      rw [hbk] at x10
                      clear hf9 hx9 hbk c8 c9 c10 z8 z9 z10
                      generalize H1[kk]?.getD 0 = hv at x8 G sm0 sm1
                      generalize X1[kk]?.getD 0 = xv at x9 G
                      have HG : Hid _ := G
                      clear G
                      go_wp2_with (go_at_call 13; refine Calls.mono HG.out ?_; rintro e w' ⟨rfl, rfl⟩)
                      go_round
                      case rel => exact ⟨kk + 1, by omega, by go_num⟩
                      case measure => simp [intOf]; omega
                    | false =>
                      have G := get_no pp pl L1 (H1[kk]?.getD 0) V4 hp (by omega) (HT.out.found_no (by omega) hk5 hbk)
                      rw [hbk] at x10
                      clear hbk c8 c9 c10 z8 z9 z10
                      generalize H1[kk]?.getD 0 = hv at x8 G sm0 sm1
                      generalize X1[kk]?.getD 0 = xv at x9
                      have HG : Hid _ := G
                      clear G
                      go_wp2_with (go_at_call 13; refine Calls.mono HG.out ?_; rintro e w' ⟨rfl, rfl⟩)
                      go_round
                      case rel => exact ⟨kk + 1, by omega, by go_num⟩
                      case measure => simp [intOf]; omega
                  · obtain rfl : kk = H1.length := by omega
                    go_wp2_with (fail)
                    go_roundw
                    case rel => exact ⟨n + 1, L1, H1, X1, B1, by go_num, by omega, by omega, hp, HLL.out, HT.out, by omega, by rw [HC.out]; simp, o8v, o9v, o10v, HB, hbs⟩
                    case measure => simp [intOf]; omega
          · have hfull : ¬ (cnt L : Int) < 1 + (rm : Int) := by have := HC.out; omega
            have hp := hp1
            have o8v : Owns V1 base _ _ _ := q8.kept hg1 (fun r e => by cases e; omega)
            have o9v : Owns V1 base _ _ _ := q9.kept hg1 (fun r e => by cases e; omega)
            have o10v : Owns V1 base _ _ _ := q10.kept hg1 (fun r e => by cases e; omega)
            have HT : Hid (Told (n + 1) L H X B) := HTl.out.mono (by omega)
            have HB : Hid (Below w.heap.size w V1) := HBV.out.grown hg1 HBV.out.size (fun j e => by cases e; omega)
            have hbs : base ≤ V1.heap.size := by have := hg1.size; omega
            clear HC hp1 hg1 q8 q9 q10 HBV hpV
            have f8 := o8v.at H.length (by simp)
            have f9 := o9v.at H.length (by simp [HT.out.lenX])
            have f10 := o10v.at H.length (by simp [HT.out.lenB])
            go_wp2_with (fail)
            go_loop [16] (fun v => ∃ k : Nat, k ≤ H.length ∧ v = .int .i64 (k : Int)) (fun v => H.length - (intOf v).toNat)
            case atStart => exact ⟨0, Nat.zero_le _, rfl⟩
            case round =>
              obtain ⟨kk, hkk, rfl⟩ := hrel
              by_cases hk5 : kk < H.length
              · go_wp2_with (fail)
                go_round
                case rel => exact ⟨kk + 1, by omega, by go_num⟩
                case measure => simp [intOf]; omega
              · go_wp2_with (fail)
                clear hk5
                go_loop [18] (fun v => ∃ k : Nat, k ≤ H.length ∧ v = .int .i64 (k : Int)) (fun v => H.length - (intOf v).toNat)
                case atStart => exact ⟨0, Nat.zero_le _, rfl⟩
                case round =>
                  obtain ⟨kk, hkk, rfl⟩ := hrel
                  by_cases hk5 : kk < H.length
                  · obtain ⟨g8, e8, b8, t8, c8, z8⟩ := f8 (by omega)
                    obtain ⟨g9, e9, b9, t9, c9, z9⟩ := f9 (by omega)
                    obtain ⟨g10, e10, b10, t10, c10, z10⟩ := f10 (by omega)
                    cases e8
                    cases e9
                    cases e10
                    have x8 := (c8 kk hk5).trans (map_int hk5)
                    have x9 := (c9 kk hk5).trans (map_int (by rw [HT.out.lenX]; exact hk5))
                    have x10 := (c10 kk hk5).trans (map_bool (by rw [HT.out.lenB]; exact hk5))
                    have sm := HT.out.small (by omega) (by omega) hk5
                    obtain ⟨sm0, sm1⟩ := sm
                    cases hbk : B[kk]?.getD false with
                    | true =>
                      obtain ⟨i9, hf9, hx9⟩ := HT.out.found_yes (by omega) hk5 hbk
                      have G := get_yes pp pl L (H[kk]?.getD 0) i9 V1 hp (by omega) hf9
                      rw [hx9] at G
                      rw [hbk] at x10
                      clear hf9 hx9 hbk c8 c9 c10 z8 z9 z10
                      generalize H[kk]?.getD 0 = hv at x8 G sm0 sm1
                      generalize X[kk]?.getD 0 = xv at x9 G
                      have HG : Hid _ := G
                      clear G
                      go_wp2_with (go_at_call 13; refine Calls.mono HG.out ?_; rintro e w' ⟨rfl, rfl⟩)
                      go_round
                      case rel => exact ⟨kk + 1, by omega, by go_num⟩
                      case measure => simp [intOf]; omega
                    | false =>
                      have G := get_no pp pl L (H[kk]?.getD 0) V1 hp (by omega) (HT.out.found_no (by omega) hk5 hbk)
                      rw [hbk] at x10
                      clear hbk c8 c9 c10 z8 z9 z10
                      generalize H[kk]?.getD 0 = hv at x8 G sm0 sm1
                      generalize X[kk]?.getD 0 = xv at x9
                      have HG : Hid _ := G
                      clear G
                      go_wp2_with (go_at_call 13; refine Calls.mono HG.out ?_; rintro e w' ⟨rfl, rfl⟩)
                      go_round
                      case rel => exact ⟨kk + 1, by omega, by go_num⟩
                      case measure => simp [intOf]; omega
                  · obtain rfl : kk = H.length := by omega
                    go_wp2_with (fail)
                    go_roundw
                    case rel => exact ⟨n + 1, L, H, X, B, by go_num, by omega, by omega, hp, hLl, HT.out, by omega, rfl, o8v, o9v, o10v, HB, hbs⟩
                    case measure => simp [intOf]; omega
        · by_cases hH : 0 < H.length
          · go_wp2_with (fail)
            refine (pick_any (sn n) H.length V9 p2 p3 (by omega) (by omega)).mono ?_
            rintro e V8 ⟨q, rfl, q1, q2, rfl⟩
            obtain ⟨kx, hkx⟩ : ∃ k : Nat, q = (k : Int) := ⟨q.toNat, by omega⟩
            subst hkx
            have hk : kx < H.length := by omega
            have S1 : St w V8 base pp pl L _ _ _ _ _ _ := St.mk q8 q9 q10 hpV HBV.out (by omega) (by omega) hpll hppl (by omega)
            obtain ⟨g8, e8, b8, t8, c8, z8⟩ := q8.at H.length (by simp) hH
            obtain ⟨g10, e10, b10, t10, c10, z10⟩ := q10.at H.length (by simp [HTl.out.lenB]) hH
            subst e8 e10
            have x8 := (c8 kx hk).trans (map_int hk)
            have x10 := (c10 kx hk).trans (map_bool (by rw [HTl.out.lenB]; exact hk))
            obtain ⟨sm0, sm1⟩ := HTl.out.small hL24 (by omega) hk
            have S1d := S1.drew
            have HS1 : Hid _ := S1d
            have z := z10 kx
            clear c8 c10 z8 z10 q1 q2 y1 y2 HTT
            cases hbk : B[kx]?.getD false with
            | true =>
              obtain ⟨i9, hf9, _⟩ := HTl.out.found_yes hL24 hk hbk
              have D := drop_yes pp pl L (H[kx]?.getD 0) i9 V8.drew S1d.pool (by omega) hf9
              have HT : Hid (Told (n + 1) _ H X (B.set kx false)) := HTl.out.drop hL24 hk hbk hf9
              have HC : Hid _ := drop_cnt (step := n) hf9
              obtain ⟨L1, hL1⟩ : ∃ l, l = L.set i9 ⟨(at_ L i9).age + 1, false, 0⟩ := ⟨_, rfl⟩
              have hLl1 : L1.length = rm + 1 := by rw [hL1]; simp [hLl]
              rw [← hL1] at D HT HC
              rw [hbk] at x10
              clear hL1 hbk hf9 S1 S1d q8 q9 q10 HBV hpV
              generalize H[kx]?.getD 0 = hv at x8 D sm0 sm1
              have HD : Hid _ := D
              clear D
              have hcp : (0 : Int) < (cnt L : Int) := by have := HC.out; omega
              go_wp2_with (fail)
              refine (wpIn_wide (n := 3)).1 ?_
              refine RI.region_by (fun _ => trivial) (fun γ j => match j with | 0 => .pointer (some ⟨pp, 0, none⟩) | 1 => .slice (some ⟨g8, 0, none⟩) H.length k8 | 2 => .int .i64 (kx : Int) | 3 => .pointer (some ⟨g8, kx, none⟩) | 4 => .int .i64 hv | 5 => .bool true | 6 => .slice (some ⟨g10, 0, none⟩) H.length k10 | 7 => .int .i64 (kx : Int) | 8 => .pointer (some ⟨g10, kx, none⟩) | 9 => .bool true | 10 => .bool false | _ => undef) (fun _ L9 w => (L9 5 = false ∧ w = V8.drew) ∨ (L9 5 = true ∧ (IsPool w pp pl L1 ∧ V8.drew.grownBy w (some pl)))) (by kernel_rfl) (by kernel_rfl) (by kernel_rfl) (by kernel_rfl) (fun _ => 0) ?_ ?_ ?_
              · exact Or.inl ⟨rfl, rfl⟩
              · generalize hD : RI.dstOf _ = D
                generalize hWA : RI.waitsFor _ = A
                generalize hZ : Act.mk _ _ = Z
                have d0 : D 0 = some 111 := by rw [← hD]; rfl
                have d1 : D 1 = some 112 := by rw [← hD]; rfl
                have d2 : D 2 = some 113 := by rw [← hD]; rfl
                have d3 : D 3 = some 114 := by rw [← hD]; rfl
                have d4 : D 4 = some 115 := by rw [← hD]; rfl
                have d5 : D 5 = some 116 := by rw [← hD]; rfl
                have d6 : D 6 = some 117 := by rw [← hD]; rfl
                have d7 : D 7 = some 118 := by rw [← hD]; rfl
                have d8 : D 8 = some 119 := by rw [← hD]; rfl
                have d9 : D 9 = some 120 := by rw [← hD]; rfl
                have d10 : D 10 = some 121 := by rw [← hD]; rfl
                have R6 : ∀ (γ : Nat → Nat) (L : Nat → Bool) (a : Act) (w : World), RI.Held D A (fun γ j => match j with | 0 => .pointer (some ⟨pp, 0, none⟩) | 1 => .slice (some ⟨g8, 0, none⟩) H.length k8 | 2 => .int .i64 (kx : Int) | 3 => .pointer (some ⟨g8, kx, none⟩) | 4 => .int .i64 hv | 5 => .bool true | 6 => .slice (some ⟨g10, 0, none⟩) H.length k10 | 7 => .int .i64 (kx : Int) | 8 => .pointer (some ⟨g10, kx, none⟩) | 9 => .bool true | 10 => .bool false | _ => undef) (fun _ L9 w => (L9 5 = false ∧ w = V8.drew) ∨ (L9 5 = true ∧ (IsPool w pp pl L1 ∧ V8.drew.grownBy w (some pl)))) Z γ L a w → a.tmps[6]? = some (.pointer (some ⟨pp, 0, none⟩)) := fun γ L a w hH => (hH.rest 6 (by rw [← hD]; exact RI.dst_free (by kernel_rfl))).trans (by rw [← hZ]; rfl)
                have R8 : ∀ (γ : Nat → Nat) (L : Nat → Bool) (a : Act) (w : World), RI.Held D A (fun γ j => match j with | 0 => .pointer (some ⟨pp, 0, none⟩) | 1 => .slice (some ⟨g8, 0, none⟩) H.length k8 | 2 => .int .i64 (kx : Int) | 3 => .pointer (some ⟨g8, kx, none⟩) | 4 => .int .i64 hv | 5 => .bool true | 6 => .slice (some ⟨g10, 0, none⟩) H.length k10 | 7 => .int .i64 (kx : Int) | 8 => .pointer (some ⟨g10, kx, none⟩) | 9 => .bool true | 10 => .bool false | _ => undef) (fun _ L9 w => (L9 5 = false ∧ w = V8.drew) ∨ (L9 5 = true ∧ (IsPool w pp pl L1 ∧ V8.drew.grownBy w (some pl)))) Z γ L a w → a.tmps[8]? = some (.slice (some ⟨g8, 0, none⟩) H.length k8) := fun γ L a w hH => (hH.rest 8 (by rw [← hD]; exact RI.dst_free (by kernel_rfl))).trans (by rw [← hZ]; rfl)
                have R10 : ∀ (γ : Nat → Nat) (L : Nat → Bool) (a : Act) (w : World), RI.Held D A (fun γ j => match j with | 0 => .pointer (some ⟨pp, 0, none⟩) | 1 => .slice (some ⟨g8, 0, none⟩) H.length k8 | 2 => .int .i64 (kx : Int) | 3 => .pointer (some ⟨g8, kx, none⟩) | 4 => .int .i64 hv | 5 => .bool true | 6 => .slice (some ⟨g10, 0, none⟩) H.length k10 | 7 => .int .i64 (kx : Int) | 8 => .pointer (some ⟨g10, kx, none⟩) | 9 => .bool true | 10 => .bool false | _ => undef) (fun _ L9 w => (L9 5 = false ∧ w = V8.drew) ∨ (L9 5 = true ∧ (IsPool w pp pl L1 ∧ V8.drew.grownBy w (some pl)))) Z γ L a w → a.tmps[10]? = some (.slice (some ⟨g10, 0, none⟩) H.length k10) := fun γ L a w hH => (hH.rest 10 (by rw [← hD]; exact RI.dst_free (by kernel_rfl))).trans (by rw [← hZ]; rfl)
                have R17 : ∀ (γ : Nat → Nat) (L : Nat → Bool) (a : Act) (w : World), RI.Held D A (fun γ j => match j with | 0 => .pointer (some ⟨pp, 0, none⟩) | 1 => .slice (some ⟨g8, 0, none⟩) H.length k8 | 2 => .int .i64 (kx : Int) | 3 => .pointer (some ⟨g8, kx, none⟩) | 4 => .int .i64 hv | 5 => .bool true | 6 => .slice (some ⟨g10, 0, none⟩) H.length k10 | 7 => .int .i64 (kx : Int) | 8 => .pointer (some ⟨g10, kx, none⟩) | 9 => .bool true | 10 => .bool false | _ => undef) (fun _ L9 w => (L9 5 = false ∧ w = V8.drew) ∨ (L9 5 = true ∧ (IsPool w pp pl L1 ∧ V8.drew.grownBy w (some pl)))) Z γ L a w → a.tmps[17]? = some (.int .i64 (kx : Int)) := fun γ L a w hH => (hH.rest 17 (by rw [← hD]; exact RI.dst_free (by kernel_rfl))).trans (by rw [← hZ]; rfl)
                have A_3_1 : A 3 1 := by rw [← hWA]; exact ⟨_, rfl, ⟨1, .data⟩, by simp, rfl, rfl⟩
                have A_3_2 : A 3 2 := by rw [← hWA]; exact ⟨_, rfl, ⟨2, .data⟩, by simp, rfl, rfl⟩
                have A_4_3 : A 4 3 := by rw [← hWA]; exact ⟨_, rfl, ⟨3, .data⟩, by simp, rfl, rfl⟩
                have A_5_0 : A 5 0 := by rw [← hWA]; exact ⟨_, rfl, ⟨0, .data⟩, by simp, rfl, rfl⟩
                have A_5_4 : A 5 4 := by rw [← hWA]; exact ⟨_, rfl, ⟨4, .data⟩, by simp, rfl, rfl⟩
                have A_8_6 : A 8 6 := by rw [← hWA]; exact ⟨_, rfl, ⟨6, .data⟩, by simp, rfl, rfl⟩
                have A_8_7 : A 8 7 := by rw [← hWA]; exact ⟨_, rfl, ⟨7, .data⟩, by simp, rfl, rfl⟩
                have A_9_8 : A 9 8 := by rw [← hWA]; exact ⟨_, rfl, ⟨8, .data⟩, by simp, rfl, rfl⟩
                have A_10_5 : A 10 5 := by rw [← hWA]; exact ⟨_, rfl, ⟨5, .data⟩, by simp, rfl, rfl⟩
                have A_10_9 : A 10 9 := by rw [← hWA]; exact ⟨_, rfl, ⟨9, .data⟩, by simp, rfl, rfl⟩
                clear hD hWA hZ
                refine RI.AllDo.cons 0 (RI.does_pure (fun _ => trivial) rfl (fun γ L w h => by rw [RI.more_ne (by omega)]; exact h) (fun γ L a w hH hl hA => by have e0 := R6 γ L a w hH; simp [execOp, go_sem, e0])) ?_
                refine RI.AllDo.cons 1 (RI.does_pure (fun _ => trivial) rfl (fun γ L w h => by rw [RI.more_ne (by omega)]; exact h) (fun γ L a w hH hl hA => by have e0 := R8 γ L a w hH; simp [execOp, go_sem, e0])) ?_
                refine RI.AllDo.cons 2 (RI.does_pure (fun _ => trivial) rfl (fun γ L w h => by rw [RI.more_ne (by omega)]; exact h) (fun γ L a w hH hl hA => by have e0 := R17 γ L a w hH; simp [execOp, go_sem, e0])) ?_
                refine RI.AllDo.cons 3 (RI.does_pure (fun _ => trivial) rfl (fun γ L w h => by rw [RI.more_ne (by omega)]; exact h) (fun γ L a w hH hl hA => by have e0 : a.tmps[112]? = some (.slice (some ⟨g8, 0, none⟩) H.length k8) := hH.slot 1 112 d1 (hA ⟨1, .data⟩ (by simp) rfl); have e1 : a.tmps[113]? = some (.int .i64 (kx : Int)) := hH.slot 2 113 d2 (hA ⟨2, .data⟩ (by simp) rfl); simp [execOp, go_sem, e0, e1, hk])) ?_
                refine RI.AllDo.cons 4 (RI.does_pure (fun _ => trivial) rfl (fun γ L w h => by rw [RI.more_ne (by omega)]; exact h) (fun γ L a w hH hl hA => by have e0 : a.tmps[114]? = some (.pointer (some ⟨g8, kx, none⟩)) := hH.slot 3 114 d3 (hA ⟨3, .data⟩ (by simp) rfl); have n5 : L 5 = false := RI.not_yet hH A_5_4 hl; have hw : w = V8.drew := RI.early hH.glob n5; subst hw; simp [execOp, go_sem, e0, x8])) ?_
                refine RI.AllDo.cons 5 (RI.does_call (fun _ => trivial) (by omega) rfl (fun γ L a w hH hl hA => by have e0 : a.tmps[111]? = some (.pointer (some ⟨pp, 0, none⟩)) := hH.slot 0 111 d0 (hA ⟨0, .data⟩ (by simp) rfl); have e1 : a.tmps[115]? = some (.int .i64 hv) := hH.slot 4 115 d4 (hA ⟨4, .data⟩ (by simp) rfl); have hw : w = V8.drew := RI.early hH.glob hl; subst hw; exact ⟨17, #[.pointer (some ⟨pp, 0, none⟩), .int .i64 hv], by simp [go_sem, e0, e1], CallsIn.mono (callsIn_wide.2 HD.out) (by rintro e w2 ⟨rfl, hq1, hq2⟩; exact ⟨_, rfl, fun _ => rfl, Or.inr ⟨RI.more_self, hq1, hq2⟩⟩)⟩)) ?_
                refine RI.AllDo.cons 6 (RI.does_pure (fun _ => trivial) rfl (fun γ L w h => by rw [RI.more_ne (by omega)]; exact h) (fun γ L a w hH hl hA => by have e0 := R10 γ L a w hH; simp [execOp, go_sem, e0])) ?_
                refine RI.AllDo.cons 7 (RI.does_pure (fun _ => trivial) rfl (fun γ L w h => by rw [RI.more_ne (by omega)]; exact h) (fun γ L a w hH hl hA => by have e0 := R17 γ L a w hH; simp [execOp, go_sem, e0])) ?_
                refine RI.AllDo.cons 8 (RI.does_pure (fun _ => trivial) rfl (fun γ L w h => by rw [RI.more_ne (by omega)]; exact h) (fun γ L a w hH hl hA => by have e0 : a.tmps[117]? = some (.slice (some ⟨g10, 0, none⟩) H.length k10) := hH.slot 6 117 d6 (hA ⟨6, .data⟩ (by simp) rfl); have e1 : a.tmps[118]? = some (.int .i64 (kx : Int)) := hH.slot 7 118 d7 (hA ⟨7, .data⟩ (by simp) rfl); simp [execOp, go_sem, e0, e1, hk])) ?_
                refine RI.AllDo.cons 9 (RI.does_pure (fun _ => trivial) rfl (fun γ L w h => by rw [RI.more_ne (by omega)]; exact h) (fun γ L a w hH hl hA => by have e0 : a.tmps[119]? = some (.pointer (some ⟨g10, kx, none⟩)) := hH.slot 8 119 d8 (hA ⟨8, .data⟩ (by simp) rfl); have xc : w.cell? ⟨g10, kx, none⟩ = some (.bool true) := (by rcases hH.glob with h | h; (rw [h.2]; exact x10); exact h.2.2.cell (show V8.drew.cell? ⟨g10, kx, none⟩ = some (.bool true) from x10) (by simp; omega)); simp [execOp, go_sem, e0, xc])) ?_
                refine RI.AllDo.cons 10 (RI.does_pure (fun _ => trivial) rfl (fun γ L w h => by rw [RI.more_ne (by omega)]; exact h) (fun γ L a w hH hl hA => by have e0 : a.tmps[116]? = some (.bool true) := hH.slot 5 116 d5 (hA ⟨5, .data⟩ (by simp) rfl); have e1 : a.tmps[120]? = some (.bool true) := hH.slot 9 120 d9 (hA ⟨9, .data⟩ (by simp) rfl); simp [execOp, go_sem, e0, e1])) ?_
                exact RI.AllDo.nil
              · intro γ a5 w5 L9 hL hLo hH
                have ha := RI.held_act hH hL (by kernel_rfl) (by kernel_rfl)
                have hg5 := RI.late hH.glob (hL 5 (by decide))
                rw [ha]
                clear ha hH hL hLo
                have S5 : St w w5 base pp pl L1 _ _ _ _ _ _ := (HS1.out.turn hg5.1 hg5.2)
                have xc : w5.cell? ⟨g10, kx, none⟩ = some (.bool true) := hg5.2.cell (show V8.drew.cell? ⟨g10, kx, none⟩ = some (.bool true) from x10) (by simp; omega)
                have zc : w5.frozen? ⟨g10, kx, none⟩ = false := (World.frozen?_of_block (w := V8) (hg5.2.block g10 t10 (by simp; omega))).trans z
                have HS6 : Hid _ := S5.put10 (by simp [HTl.out.lenB]) kx (.bool false)
                clear S5 hg5 HS1 HD x8 x10 z
                simp only [RI.putAll, Act.put, List.setIfInBounds_toArray, List.set_cons_zero, List.set_cons_succ, Nat.zero_add, Nat.reduceAdd]
                go_wp2_with (fail)
                obtain ⟨W6, hW6⟩ : ∃ W, W = w5.setCell ⟨g10, kx, none⟩ (.bool false) := ⟨_, rfl⟩
                obtain ⟨B1, hB1⟩ : ∃ l, l = B.set kx false := ⟨_, rfl⟩
                have S6 : St w W6 base pp pl L1 (.slice (some ⟨g8, 0, none⟩) H.length k8) (.slice a9 H.length k9) (.slice (some ⟨g10, 0, none⟩) H.length k10) (H.map (.int .i64)) (X.map (.int .i64)) (B1.map .bool) := by
                  rw [hW6, hB1, List.map_set]; exact HS6.out
                rw [← hW6]
                rw [← hB1] at HT
                have hLb : L1.length ≤ 1024 := by omega
                have o8v := S6.o8
                have o9v := S6.o9
                have o10v := S6.o10
                have hp := S6.pool
                have HB : Hid (Below w.heap.size w W6) := S6.below
                have hbs : base ≤ W6.heap.size := S6.bs
                clear hW6 hB1 S6 HS6 xc zc HTl
                have f8 := o8v.at H.length (by simp)
                have f9 := o9v.at H.length (by simp [HT.out.lenX])
                have f10 := o10v.at H.length (by simp [HT.out.lenB])
                go_loop [18] (fun v => ∃ k : Nat, k ≤ H.length ∧ v = .int .i64 (k : Int)) (fun v => H.length - (intOf v).toNat)
                case atStart => exact ⟨0, Nat.zero_le _, rfl⟩
                case round =>
                  obtain ⟨kk, hkk, rfl⟩ := hrel
                  by_cases hk5 : kk < H.length
                  · obtain ⟨g8, e8, b8, t8, c8, z8⟩ := f8 (by omega)
                    obtain ⟨g9, e9, b9, t9, c9, z9⟩ := f9 (by omega)
                    obtain ⟨g10, e10, b10, t10, c10, z10⟩ := f10 (by omega)
                    cases e8
                    cases e9
                    cases e10
                    have x8 := (c8 kk hk5).trans (map_int hk5)
                    have x9 := (c9 kk hk5).trans (map_int (by rw [HT.out.lenX]; exact hk5))
                    have x10 := (c10 kk hk5).trans (map_bool (by rw [HT.out.lenB]; exact hk5))
                    have sm := HT.out.small (by omega) (by omega) hk5
                    obtain ⟨sm0, sm1⟩ := sm
                    cases hbk : B1[kk]?.getD false with
                    | true =>
                      obtain ⟨i9, hf9, hx9⟩ := HT.out.found_yes (by omega) hk5 hbk
                      have G := get_yes pp pl L1 (H[kk]?.getD 0) i9 W6 hp (by omega) hf9
                      rw [hx9] at G
                      rw [hbk] at x10
                      clear hf9 hx9 hbk c8 c9 c10 z8 z9 z10
                      generalize H[kk]?.getD 0 = hv at x8 G sm0 sm1
                      generalize X[kk]?.getD 0 = xv at x9 G
                      have HG : Hid _ := G
                      clear G
                      go_wp2_with (go_at_call 13; refine Calls.mono HG.out ?_; rintro e w' ⟨rfl, rfl⟩)
                      go_round
                      case rel => exact ⟨kk + 1, by omega, by go_num⟩
                      case measure => simp [intOf]; omega
                    | false =>
                      have G := get_no pp pl L1 (H[kk]?.getD 0) W6 hp (by omega) (HT.out.found_no (by omega) hk5 hbk)
                      rw [hbk] at x10
                      clear hbk c8 c9 c10 z8 z9 z10
                      generalize H[kk]?.getD 0 = hv at x8 G sm0 sm1
                      generalize X[kk]?.getD 0 = xv at x9
                      have HG : Hid _ := G
                      clear G
                      go_wp2_with (go_at_call 13; refine Calls.mono HG.out ?_; rintro e w' ⟨rfl, rfl⟩)
                      go_round
                      case rel => exact ⟨kk + 1, by omega, by go_num⟩
                      case measure => simp [intOf]; omega
                  · obtain rfl : kk = H.length := by omega
                    go_wp2_with (fail)
                    go_roundw
                    case rel => exact ⟨n + 1, L1, H, X, B1, by go_num, by omega, by omega, hp, hLl1, HT.out, by omega, by have h9 := HC.out; rw [show ((cnt L : Nat) : Int) - 1 = (cnt L1 : Int) by omega], o8v, o9v, o10v, HB, hbs⟩
                    case measure => simp [intOf]; omega
            | false =>
              have D := drop_no pp pl L (H[kx]?.getD 0) V8.drew S1d.pool (by omega) (HTl.out.found_no hL24 hk hbk)
              have HT : Hid (Told (n + 1) L H X (B.set kx false)) := by show Told _ _ _ _ _; rw [set_false hbk]; exact HTl.out.mono (by omega)
              rw [hbk] at x10
              clear hbk S1 S1d q8 q9 q10 HBV hpV
              generalize H[kx]?.getD 0 = hv at x8 D sm0 sm1
              have HD : Hid _ := D
              clear D
              go_wp2_with (fail)
              refine (wpIn_wide (n := 3)).1 ?_
              refine RI.region_by (fun _ => trivial) (fun γ j => match j with | 0 => .pointer (some ⟨pp, 0, none⟩) | 1 => .slice (some ⟨g8, 0, none⟩) H.length k8 | 2 => .int .i64 (kx : Int) | 3 => .pointer (some ⟨g8, kx, none⟩) | 4 => .int .i64 hv | 5 => .bool false | 6 => .slice (some ⟨g10, 0, none⟩) H.length k10 | 7 => .int .i64 (kx : Int) | 8 => .pointer (some ⟨g10, kx, none⟩) | 9 => .bool false | 10 => .bool false | _ => undef) (fun _ L9 w => (L9 5 = false ∧ w = V8.drew) ∨ (L9 5 = true ∧ (w = V8.drew))) (by kernel_rfl) (by kernel_rfl) (by kernel_rfl) (by kernel_rfl) (fun _ => 0) ?_ ?_ ?_
              · exact Or.inl ⟨rfl, rfl⟩
              · generalize hD : RI.dstOf _ = D
                generalize hWA : RI.waitsFor _ = A
                generalize hZ : Act.mk _ _ = Z
                have d0 : D 0 = some 111 := by rw [← hD]; rfl
                have d1 : D 1 = some 112 := by rw [← hD]; rfl
                have d2 : D 2 = some 113 := by rw [← hD]; rfl
                have d3 : D 3 = some 114 := by rw [← hD]; rfl
                have d4 : D 4 = some 115 := by rw [← hD]; rfl
                have d5 : D 5 = some 116 := by rw [← hD]; rfl
                have d6 : D 6 = some 117 := by rw [← hD]; rfl
                have d7 : D 7 = some 118 := by rw [← hD]; rfl
                have d8 : D 8 = some 119 := by rw [← hD]; rfl
                have d9 : D 9 = some 120 := by rw [← hD]; rfl
                have d10 : D 10 = some 121 := by rw [← hD]; rfl
                have R6 : ∀ (γ : Nat → Nat) (L : Nat → Bool) (a : Act) (w : World), RI.Held D A (fun γ j => match j with | 0 => .pointer (some ⟨pp, 0, none⟩) | 1 => .slice (some ⟨g8, 0, none⟩) H.length k8 | 2 => .int .i64 (kx : Int) | 3 => .pointer (some ⟨g8, kx, none⟩) | 4 => .int .i64 hv | 5 => .bool false | 6 => .slice (some ⟨g10, 0, none⟩) H.length k10 | 7 => .int .i64 (kx : Int) | 8 => .pointer (some ⟨g10, kx, none⟩) | 9 => .bool false | 10 => .bool false | _ => undef) (fun _ L9 w => (L9 5 = false ∧ w = V8.drew) ∨ (L9 5 = true ∧ (w = V8.drew))) Z γ L a w → a.tmps[6]? = some (.pointer (some ⟨pp, 0, none⟩)) := fun γ L a w hH => (hH.rest 6 (by rw [← hD]; exact RI.dst_free (by kernel_rfl))).trans (by rw [← hZ]; rfl)
                have R8 : ∀ (γ : Nat → Nat) (L : Nat → Bool) (a : Act) (w : World), RI.Held D A (fun γ j => match j with | 0 => .pointer (some ⟨pp, 0, none⟩) | 1 => .slice (some ⟨g8, 0, none⟩) H.length k8 | 2 => .int .i64 (kx : Int) | 3 => .pointer (some ⟨g8, kx, none⟩) | 4 => .int .i64 hv | 5 => .bool false | 6 => .slice (some ⟨g10, 0, none⟩) H.length k10 | 7 => .int .i64 (kx : Int) | 8 => .pointer (some ⟨g10, kx, none⟩) | 9 => .bool false | 10 => .bool false | _ => undef) (fun _ L9 w => (L9 5 = false ∧ w = V8.drew) ∨ (L9 5 = true ∧ (w = V8.drew))) Z γ L a w → a.tmps[8]? = some (.slice (some ⟨g8, 0, none⟩) H.length k8) := fun γ L a w hH => (hH.rest 8 (by rw [← hD]; exact RI.dst_free (by kernel_rfl))).trans (by rw [← hZ]; rfl)
                have R10 : ∀ (γ : Nat → Nat) (L : Nat → Bool) (a : Act) (w : World), RI.Held D A (fun γ j => match j with | 0 => .pointer (some ⟨pp, 0, none⟩) | 1 => .slice (some ⟨g8, 0, none⟩) H.length k8 | 2 => .int .i64 (kx : Int) | 3 => .pointer (some ⟨g8, kx, none⟩) | 4 => .int .i64 hv | 5 => .bool false | 6 => .slice (some ⟨g10, 0, none⟩) H.length k10 | 7 => .int .i64 (kx : Int) | 8 => .pointer (some ⟨g10, kx, none⟩) | 9 => .bool false | 10 => .bool false | _ => undef) (fun _ L9 w => (L9 5 = false ∧ w = V8.drew) ∨ (L9 5 = true ∧ (w = V8.drew))) Z γ L a w → a.tmps[10]? = some (.slice (some ⟨g10, 0, none⟩) H.length k10) := fun γ L a w hH => (hH.rest 10 (by rw [← hD]; exact RI.dst_free (by kernel_rfl))).trans (by rw [← hZ]; rfl)
                have R17 : ∀ (γ : Nat → Nat) (L : Nat → Bool) (a : Act) (w : World), RI.Held D A (fun γ j => match j with | 0 => .pointer (some ⟨pp, 0, none⟩) | 1 => .slice (some ⟨g8, 0, none⟩) H.length k8 | 2 => .int .i64 (kx : Int) | 3 => .pointer (some ⟨g8, kx, none⟩) | 4 => .int .i64 hv | 5 => .bool false | 6 => .slice (some ⟨g10, 0, none⟩) H.length k10 | 7 => .int .i64 (kx : Int) | 8 => .pointer (some ⟨g10, kx, none⟩) | 9 => .bool false | 10 => .bool false | _ => undef) (fun _ L9 w => (L9 5 = false ∧ w = V8.drew) ∨ (L9 5 = true ∧ (w = V8.drew))) Z γ L a w → a.tmps[17]? = some (.int .i64 (kx : Int)) := fun γ L a w hH => (hH.rest 17 (by rw [← hD]; exact RI.dst_free (by kernel_rfl))).trans (by rw [← hZ]; rfl)
                have A_3_1 : A 3 1 := by rw [← hWA]; exact ⟨_, rfl, ⟨1, .data⟩, by simp, rfl, rfl⟩
                have A_3_2 : A 3 2 := by rw [← hWA]; exact ⟨_, rfl, ⟨2, .data⟩, by simp, rfl, rfl⟩
                have A_4_3 : A 4 3 := by rw [← hWA]; exact ⟨_, rfl, ⟨3, .data⟩, by simp, rfl, rfl⟩
                have A_5_0 : A 5 0 := by rw [← hWA]; exact ⟨_, rfl, ⟨0, .data⟩, by simp, rfl, rfl⟩
                have A_5_4 : A 5 4 := by rw [← hWA]; exact ⟨_, rfl, ⟨4, .data⟩, by simp, rfl, rfl⟩
                have A_8_6 : A 8 6 := by rw [← hWA]; exact ⟨_, rfl, ⟨6, .data⟩, by simp, rfl, rfl⟩
                have A_8_7 : A 8 7 := by rw [← hWA]; exact ⟨_, rfl, ⟨7, .data⟩, by simp, rfl, rfl⟩
                have A_9_8 : A 9 8 := by rw [← hWA]; exact ⟨_, rfl, ⟨8, .data⟩, by simp, rfl, rfl⟩
                have A_10_5 : A 10 5 := by rw [← hWA]; exact ⟨_, rfl, ⟨5, .data⟩, by simp, rfl, rfl⟩
                have A_10_9 : A 10 9 := by rw [← hWA]; exact ⟨_, rfl, ⟨9, .data⟩, by simp, rfl, rfl⟩
                clear hD hWA hZ
                refine RI.AllDo.cons 0 (RI.does_pure (fun _ => trivial) rfl (fun γ L w h => by rw [RI.more_ne (by omega)]; exact h) (fun γ L a w hH hl hA => by have e0 := R6 γ L a w hH; simp [execOp, go_sem, e0])) ?_
                refine RI.AllDo.cons 1 (RI.does_pure (fun _ => trivial) rfl (fun γ L w h => by rw [RI.more_ne (by omega)]; exact h) (fun γ L a w hH hl hA => by have e0 := R8 γ L a w hH; simp [execOp, go_sem, e0])) ?_
                refine RI.AllDo.cons 2 (RI.does_pure (fun _ => trivial) rfl (fun γ L w h => by rw [RI.more_ne (by omega)]; exact h) (fun γ L a w hH hl hA => by have e0 := R17 γ L a w hH; simp [execOp, go_sem, e0])) ?_
                refine RI.AllDo.cons 3 (RI.does_pure (fun _ => trivial) rfl (fun γ L w h => by rw [RI.more_ne (by omega)]; exact h) (fun γ L a w hH hl hA => by have e0 : a.tmps[112]? = some (.slice (some ⟨g8, 0, none⟩) H.length k8) := hH.slot 1 112 d1 (hA ⟨1, .data⟩ (by simp) rfl); have e1 : a.tmps[113]? = some (.int .i64 (kx : Int)) := hH.slot 2 113 d2 (hA ⟨2, .data⟩ (by simp) rfl); simp [execOp, go_sem, e0, e1, hk])) ?_
                refine RI.AllDo.cons 4 (RI.does_pure (fun _ => trivial) rfl (fun γ L w h => by rw [RI.more_ne (by omega)]; exact h) (fun γ L a w hH hl hA => by have e0 : a.tmps[114]? = some (.pointer (some ⟨g8, kx, none⟩)) := hH.slot 3 114 d3 (hA ⟨3, .data⟩ (by simp) rfl); have n5 : L 5 = false := RI.not_yet hH A_5_4 hl; have hw : w = V8.drew := RI.early hH.glob n5; subst hw; simp [execOp, go_sem, e0, x8])) ?_
                refine RI.AllDo.cons 5 (RI.does_call (fun _ => trivial) (by omega) rfl (fun γ L a w hH hl hA => by have e0 : a.tmps[111]? = some (.pointer (some ⟨pp, 0, none⟩)) := hH.slot 0 111 d0 (hA ⟨0, .data⟩ (by simp) rfl); have e1 : a.tmps[115]? = some (.int .i64 hv) := hH.slot 4 115 d4 (hA ⟨4, .data⟩ (by simp) rfl); have hw : w = V8.drew := RI.early hH.glob hl; subst hw; exact ⟨17, #[.pointer (some ⟨pp, 0, none⟩), .int .i64 hv], by simp [go_sem, e0, e1], CallsIn.mono (callsIn_wide.2 HD.out) (by rintro e w2 ⟨rfl, hq1⟩; exact ⟨_, rfl, fun _ => rfl, Or.inr ⟨RI.more_self, hq1⟩⟩)⟩)) ?_
                refine RI.AllDo.cons 6 (RI.does_pure (fun _ => trivial) rfl (fun γ L w h => by rw [RI.more_ne (by omega)]; exact h) (fun γ L a w hH hl hA => by have e0 := R10 γ L a w hH; simp [execOp, go_sem, e0])) ?_
                refine RI.AllDo.cons 7 (RI.does_pure (fun _ => trivial) rfl (fun γ L w h => by rw [RI.more_ne (by omega)]; exact h) (fun γ L a w hH hl hA => by have e0 := R17 γ L a w hH; simp [execOp, go_sem, e0])) ?_
                refine RI.AllDo.cons 8 (RI.does_pure (fun _ => trivial) rfl (fun γ L w h => by rw [RI.more_ne (by omega)]; exact h) (fun γ L a w hH hl hA => by have e0 : a.tmps[117]? = some (.slice (some ⟨g10, 0, none⟩) H.length k10) := hH.slot 6 117 d6 (hA ⟨6, .data⟩ (by simp) rfl); have e1 : a.tmps[118]? = some (.int .i64 (kx : Int)) := hH.slot 7 118 d7 (hA ⟨7, .data⟩ (by simp) rfl); simp [execOp, go_sem, e0, e1, hk])) ?_
                refine RI.AllDo.cons 9 (RI.does_pure (fun _ => trivial) rfl (fun γ L w h => by rw [RI.more_ne (by omega)]; exact h) (fun γ L a w hH hl hA => by have e0 : a.tmps[119]? = some (.pointer (some ⟨g10, kx, none⟩)) := hH.slot 8 119 d8 (hA ⟨8, .data⟩ (by simp) rfl); have xc : w.cell? ⟨g10, kx, none⟩ = some (.bool false) := (by rcases hH.glob with h | h <;> (rw [h.2]; exact x10)); simp [execOp, go_sem, e0, xc])) ?_
                refine RI.AllDo.cons 10 (RI.does_pure (fun _ => trivial) rfl (fun γ L w h => by rw [RI.more_ne (by omega)]; exact h) (fun γ L a w hH hl hA => by have e0 : a.tmps[116]? = some (.bool false) := hH.slot 5 116 d5 (hA ⟨5, .data⟩ (by simp) rfl); have e1 : a.tmps[120]? = some (.bool false) := hH.slot 9 120 d9 (hA ⟨9, .data⟩ (by simp) rfl); simp [execOp, go_sem, e0, e1])) ?_
                exact RI.AllDo.nil
              · intro γ a5 w5 L9 hL hLo hH
                have ha := RI.held_act hH hL (by kernel_rfl) (by kernel_rfl)
                have hg5 := RI.late hH.glob (hL 5 (by decide))
                rw [ha]
                clear ha hH hL hLo
                have S5 : St w w5 base pp pl L _ _ _ _ _ _ := (by rw [hg5]; exact HS1.out)
                have xc : w5.cell? ⟨g10, kx, none⟩ = some (.bool false) := (by rw [hg5]; exact x10)
                have zc : w5.frozen? ⟨g10, kx, none⟩ = false := (by rw [hg5]; exact z)
                have HS6 : Hid _ := S5.put10 (by simp [HTl.out.lenB]) kx (.bool false)
                clear S5 hg5 HS1 HD x8 x10 z
                simp only [RI.putAll, Act.put, List.setIfInBounds_toArray, List.set_cons_zero, List.set_cons_succ, Nat.zero_add, Nat.reduceAdd]
                go_wp2_with (fail)
                obtain ⟨W6, hW6⟩ : ∃ W, W = w5.setCell ⟨g10, kx, none⟩ (.bool false) := ⟨_, rfl⟩
                obtain ⟨B1, hB1⟩ : ∃ l, l = B.set kx false := ⟨_, rfl⟩
                have S6 : St w W6 base pp pl L (.slice (some ⟨g8, 0, none⟩) H.length k8) (.slice a9 H.length k9) (.slice (some ⟨g10, 0, none⟩) H.length k10) (H.map (.int .i64)) (X.map (.int .i64)) (B1.map .bool) := by
                  rw [hW6, hB1, List.map_set]; exact HS6.out
                rw [← hW6]
                rw [← hB1] at HT
                have hLb : L.length ≤ 1024 := by omega
                have o8v := S6.o8
                have o9v := S6.o9
                have o10v := S6.o10
                have hp := S6.pool
                have HB : Hid (Below w.heap.size w W6) := S6.below
                have hbs : base ≤ W6.heap.size := S6.bs
                clear hW6 hB1 S6 HS6 xc zc HTl
                have f8 := o8v.at H.length (by simp)
                have f9 := o9v.at H.length (by simp [HT.out.lenX])
                have f10 := o10v.at H.length (by simp [HT.out.lenB])
                go_loop [18] (fun v => ∃ k : Nat, k ≤ H.length ∧ v = .int .i64 (k : Int)) (fun v => H.length - (intOf v).toNat)
                case atStart => exact ⟨0, Nat.zero_le _, rfl⟩
                case round =>
                  obtain ⟨kk, hkk, rfl⟩ := hrel
                  by_cases hk5 : kk < H.length
                  · obtain ⟨g8, e8, b8, t8, c8, z8⟩ := f8 (by omega)
                    obtain ⟨g9, e9, b9, t9, c9, z9⟩ := f9 (by omega)
                    obtain ⟨g10, e10, b10, t10, c10, z10⟩ := f10 (by omega)
                    cases e8
                    cases e9
                    cases e10
                    have x8 := (c8 kk hk5).trans (map_int hk5)
                    have x9 := (c9 kk hk5).trans (map_int (by rw [HT.out.lenX]; exact hk5))
                    have x10 := (c10 kk hk5).trans (map_bool (by rw [HT.out.lenB]; exact hk5))
                    have sm := HT.out.small (by omega) (by omega) hk5
                    obtain ⟨sm0, sm1⟩ := sm
                    cases hbk : B1[kk]?.getD false with
                    | true =>
                      obtain ⟨i9, hf9, hx9⟩ := HT.out.found_yes (by omega) hk5 hbk
                      have G := get_yes pp pl L (H[kk]?.getD 0) i9 W6 hp (by omega) hf9
                      rw [hx9] at G
                      rw [hbk] at x10
                      clear hf9 hx9 hbk c8 c9 c10 z8 z9 z10
                      generalize H[kk]?.getD 0 = hv at x8 G sm0 sm1
                      generalize X[kk]?.getD 0 = xv at x9 G
                      have HG : Hid _ := G
                      clear G
                      go_wp2_with (go_at_call 13; refine Calls.mono HG.out ?_; rintro e w' ⟨rfl, rfl⟩)
                      go_round
                      case rel => exact ⟨kk + 1, by omega, by go_num⟩
                      case measure => simp [intOf]; omega
                    | false =>
                      have G := get_no pp pl L (H[kk]?.getD 0) W6 hp (by omega) (HT.out.found_no (by omega) hk5 hbk)
                      rw [hbk] at x10
                      clear hbk c8 c9 c10 z8 z9 z10
                      generalize H[kk]?.getD 0 = hv at x8 G sm0 sm1
                      generalize X[kk]?.getD 0 = xv at x9
                      have HG : Hid _ := G
                      clear G
                      go_wp2_with (go_at_call 13; refine Calls.mono HG.out ?_; rintro e w' ⟨rfl, rfl⟩)
                      go_round
                      case rel => exact ⟨kk + 1, by omega, by go_num⟩
                      case measure => simp [intOf]; omega
                  · obtain rfl : kk = H.length := by omega
                    go_wp2_with (fail)
                    go_roundw
                    case rel => exact ⟨n + 1, L, H, X, B1, by go_num, by omega, by omega, hp, hLl, HT.out, by omega, rfl, o8v, o9v, o10v, HB, hbs⟩
                    case measure => simp [intOf]; omega
          · have hp := hpV
            have o8v := q8
            have o9v := q9
            have o10v := q10
            have HT : Hid (Told (n + 1) L H X B) := HTl.out.mono (by omega)
            have HB := HBV
            have hbs : base ≤ V9.heap.size := by omega
            clear q8 q9 q10 HBV hpV HTl HTT y1 y2
            have f8 := o8v.at H.length (by simp)
            have f9 := o9v.at H.length (by simp [HT.out.lenX])
            have f10 := o10v.at H.length (by simp [HT.out.lenB])
            go_wp2_with (fail)
            go_loop [18] (fun v => ∃ k : Nat, k ≤ H.length ∧ v = .int .i64 (k : Int)) (fun v => H.length - (intOf v).toNat)
            case atStart => exact ⟨0, Nat.zero_le _, rfl⟩
            case round =>
              obtain ⟨kk, hkk, rfl⟩ := hrel
              by_cases hk5 : kk < H.length
              · obtain ⟨g8, e8, b8, t8, c8, z8⟩ := f8 (by omega)
                obtain ⟨g9, e9, b9, t9, c9, z9⟩ := f9 (by omega)
                obtain ⟨g10, e10, b10, t10, c10, z10⟩ := f10 (by omega)
                cases e8
                cases e9
                cases e10
                have x8 := (c8 kk hk5).trans (map_int hk5)
                have x9 := (c9 kk hk5).trans (map_int (by rw [HT.out.lenX]; exact hk5))
                have x10 := (c10 kk hk5).trans (map_bool (by rw [HT.out.lenB]; exact hk5))
                have sm := HT.out.small (by omega) (by omega) hk5
                obtain ⟨sm0, sm1⟩ := sm
                cases hbk : B[kk]?.getD false with
                | true =>
                  obtain ⟨i9, hf9, hx9⟩ := HT.out.found_yes (by omega) hk5 hbk
                  have G := get_yes pp pl L (H[kk]?.getD 0) i9 V9 hp (by omega) hf9
                  rw [hx9] at G
                  rw [hbk] at x10
                  clear hf9 hx9 hbk c8 c9 c10 z8 z9 z10
                  generalize H[kk]?.getD 0 = hv at x8 G sm0 sm1
                  generalize X[kk]?.getD 0 = xv at x9 G
                  have HG : Hid _ := G
                  clear G
                  go_wp2_with (go_at_call 13; refine Calls.mono HG.out ?_; rintro e w' ⟨rfl, rfl⟩)
                  go_round
                  case rel => exact ⟨kk + 1, by omega, by go_num⟩
                  case measure => simp [intOf]; omega
                | false =>
                  have G := get_no pp pl L (H[kk]?.getD 0) V9 hp (by omega) (HT.out.found_no (by omega) hk5 hbk)
                  rw [hbk] at x10
                  clear hbk c8 c9 c10 z8 z9 z10
                  generalize H[kk]?.getD 0 = hv at x8 G sm0 sm1
                  generalize X[kk]?.getD 0 = xv at x9
                  have HG : Hid _ := G
                  clear G
                  go_wp2_with (go_at_call 13; refine Calls.mono HG.out ?_; rintro e w' ⟨rfl, rfl⟩)
                  go_round
                  case rel => exact ⟨kk + 1, by omega, by go_num⟩
                  case measure => simp [intOf]; omega
              · obtain rfl : kk = H.length := by omega
                go_wp2_with (fail)
                go_roundw
                case rel => exact ⟨n + 1, L, H, X, B, by go_num, by omega, by omega, hp, hLl, HT.out, by omega, rfl, o8v, o9v, o10v, HB, hbs⟩
                case measure => simp [intOf]; omega
      · obtain rfl : n = 200 := by omega
        have Ln := len_any pp pl L wr hp
        rw [held_cnt] at Ln
        have HLn : Hid _ := Ln
        clear Ln
        go_wp2_with (go_at_call 23; refine Calls.mono HLn.out ?_; rintro e wn ⟨rfl, hbn⟩)
        go_ret
        exact ⟨ret_bool (by simp), HB.out.trans (hbn.mono HB.out.size)⟩
    · have Ln := len_any pp pl L wr hp
      rw [held_cnt] at Ln
      have HLn : Hid _ := Ln
      clear Ln
      go_wp2_with (go_at_call 23; refine Calls.mono HLn.out ?_; rintro e wn ⟨rfl, hbn⟩)
      go_ret
      exact ⟨ret_bool (by simp), HB.out.trans (hbn.mono HB.out.size)⟩


/-- What the walk is told of a slice of steps that came in. -/
theorem steps_of {H : Type} {enc : TypeId × Value → H} {W : World} {base : Nat} {spare : Nat → Bool} {held : Bool} {a : Option Addr} {len cap fuel : Nat} {x : DataW H × List MemPlace}
    (h : DataW.trod enc Try.prog W base spare held fuel 22 [.slice a len cap] = some x) : len ≤ 9223372036854775807 ∧ ∃ (sw sn sx : Nat → Int) (sb : Nat → Bool),
      (len = 0 ∨ ∃ b off, a = some ⟨b, off, none⟩ ∧ ∀ i, i < len → W.cell? ⟨b, off + i * 4, none⟩ = some (.int .i64 (sw i)) ∧ W.cell? ⟨b, off + i * 4 + 1, none⟩ = some (.int .i64 (sn i)) ∧ W.cell? ⟨b, off + i * 4 + 2, none⟩ = some (.int .i64 (sx i)) ∧ W.cell? ⟨b, off + i * 4 + 3, none⟩ = some (.bool (sb i))) ∧
      ∀ i, i < len → (-9223372036854775808 ≤ sw i ∧ sw i ≤ 9223372036854775807) ∧ (-9223372036854775808 ≤ sn i ∧ sn i ≤ 9223372036854775807) := by
  rcases Deep.open_slice Try.underlying22 h with ⟨hcs, _⟩ | ⟨y, l, c, m, n, D, Pl, hcs, _, hl, hm, hmm, _, hx⟩
  · simp at hcs
    obtain ⟨rfl, rfl, rfl⟩ := hcs
    exact ⟨by omega, fun _ => 0, fun _ => 0, fun _ => 0, fun _ => false, Or.inl rfl, fun i hi => absurd hi (by omega)⟩
  · simp at hcs
    obtain ⟨rfl, rfl, rfl⟩ := hcs
    unfold maxLen at hm
    refine ⟨by omega, ?_⟩
    have hlm : len ≤ m := by rw [hmm]; split <;> omega
    have hc4 : Try.prog.cellsOf 33 = 4 := by kernel_rfl
    have hc1 : Try.prog.cellsOf 3 = 1 := by kernel_rfl
    have hc0 : Try.prog.cellsOf 4 = 1 := by kernel_rfl
    have each : ∀ i, i < len → ∃ (p q r : Int) (t : Bool), W.cell? ((y.add (i * 4)).add 0) = some (.int .i64 p) ∧ W.cell? ((y.add (i * 4)).add 1) = some (.int .i64 q) ∧ W.cell? ((y.add (i * 4)).add 2) = some (.int .i64 r) ∧ W.cell? ((y.add (i * 4)).add 3) = some (.bool t) ∧ (Lit.int .i64 p).wf = true ∧ (Lit.int .i64 q).wf = true := by
      intro i hi
      obtain ⟨cs', hcells, ht⟩ := hx i (by omega)
      rw [hc4] at hcells
      obtain ⟨_, hlen, hcell⟩ := World.cells?_some hcells
      obtain ⟨xs, k, _, _, _, hxl, hel⟩ := DataW.trod_struct Try.underlying33 ht
      have get : ∀ (v : Value) (j : Nat), ((cs'.drop j).take 1) = [v] → cs'[j]? = some v := fun v j h => by
        have h2 : ((cs'.drop j).take 1)[0]? = some v := by rw [h]; rfl
        simpa [List.getElem?_take, List.getElem?_drop] using h2
      have some_of : ∀ j, j < 4 → ∃ z, xs[j]? = some z := fun j hj => ⟨_, List.getElem?_eq_getElem (by rw [hxl]; exact hj)⟩
      have e0 := hel 0 _ rfl
      have e1 := hel 1 _ rfl
      have e2 := hel 2 _ rfl
      have e3 := hel 3 _ rfl
      obtain ⟨z0, hz0⟩ := some_of 0 (by omega)
      obtain ⟨z1, hz1⟩ := some_of 1 (by omega)
      obtain ⟨z2, hz2⟩ := some_of 2 (by omega)
      obtain ⟨z3, hz3⟩ := some_of 3 (by omega)
      rw [hz0] at e0
      rw [hz1] at e1
      rw [hz2] at e2
      rw [hz3] at e3
      obtain ⟨p, hp, _, wp⟩ := DataW.trod_int Try.underlying3 e0
      obtain ⟨q, hq, _, wq⟩ := DataW.trod_int Try.underlying3 e1
      obtain ⟨r, hr, _, _⟩ := DataW.trod_int Try.underlying3 e2
      obtain ⟨t, ht3, _⟩ := DataW.trod_bool Try.underlying4 e3
      have hp2 : (cs'.drop 0).take (Try.prog.cellsOf 3) = [.int .i64 p] := hp
      have hq2 : (cs'.drop 1).take (Try.prog.cellsOf 3) = [.int .i64 q] := hq
      have hr2 : (cs'.drop 2).take (Try.prog.cellsOf 3) = [.int .i64 r] := hr
      have ht4 : (cs'.drop 3).take (Try.prog.cellsOf 4) = [.bool t] := ht3
      rw [hc1] at hp2 hq2 hr2
      rw [hc0] at ht4
      exact ⟨p, q, r, t, (hcell 0 (by omega)).trans (get _ 0 hp2), (hcell 1 (by omega)).trans (get _ 1 hq2), (hcell 2 (by omega)).trans (get _ 2 hr2), (hcell 3 (by omega)).trans (get _ 3 ht4), wp, wq⟩
    have ch : ∃ (sw sn sx : Nat → Int) (sb : Nat → Bool), ∀ i, i < len → W.cell? ((y.add (i * 4)).add 0) = some (.int .i64 (sw i)) ∧ W.cell? ((y.add (i * 4)).add 1) = some (.int .i64 (sn i)) ∧ W.cell? ((y.add (i * 4)).add 2) = some (.int .i64 (sx i)) ∧ W.cell? ((y.add (i * 4)).add 3) = some (.bool (sb i)) ∧ (Lit.int .i64 (sw i)).wf = true ∧ (Lit.int .i64 (sn i)).wf = true := by
      refine ⟨fun i => if h : i < len then (each i h).choose else 0, fun i => if h : i < len then (each i h).choose_spec.choose else 0, fun i => if h : i < len then (each i h).choose_spec.choose_spec.choose else 0, fun i => if h : i < len then (each i h).choose_spec.choose_spec.choose_spec.choose else false, fun i hi => ?_⟩
      simp only [dif_pos hi]
      exact (each i hi).choose_spec.choose_spec.choose_spec.choose_spec
    obtain ⟨sw, sn, sx, sb, hall⟩ := ch
    refine ⟨sw, sn, sx, sb, ?_, fun i hi => ⟨?_, ?_⟩⟩
    · by_cases h0 : len = 0
      · exact Or.inl h0
      · right
        obtain ⟨b, off, spot⟩ := y
        have c0 := (hall 0 (by omega)).1
        have hs : spot = none := by simpa [Addr.add] using World.cell?_spot c0
        subst hs
        have ad : ∀ i j, ((⟨b, off, none⟩ : Addr).add (i * 4)).add j = ⟨b, off + i * 4 + j, none⟩ := fun i j => by
          unfold Addr.add
          split <;> split <;> simp_all
        refine ⟨b, off, rfl, fun i hi => ?_⟩
        obtain ⟨h0, h1, h2, h3, _⟩ := hall i hi
        rw [ad] at h0 h1 h2 h3
        exact ⟨h0, h1, h2, h3⟩
    · have := bounds_i64 (hall i hi).2.2.2.2.1
      omega
    · have := bounds_i64 (hall i hi).2.2.2.2.2
      omega

/-! ### The row's step, after the guide's template -/
set_option maxRecDepth 100000 in
theorem lifted (os : Os) (started : os.Started) (H : Type) (enc : TypeId × Value → H) :
    ReturnsInHanded {} Try.checked os 4 .any (Rows.poolOnceSpec.pre6 enc Try.prog Try.f4 Rows.poolOnceRow.domain false) (Rows.poolOnceSpec.post enc Try.prog Try.f4 false true false false) := by
  refine returnsInHanded_of_change (C := Try.checked) own started (by kernel_rfl) Try.func4
    (ChangeSpec.witness6 (enc := enc) (C := Try.checked) false ⟨#[], #[.int .i64 0, .slice none 0 0], []⟩ 8 (by kernel_rfl) (by kernel_rfl) (by kernel_rfl) (by kernel_rfl)) ?_
  intro W base args ds gs before hval0 hW hcnd _
  have hval : ∀ (j : Nat) t v, Try.f4.params[j]? = some t → args[j]? = some v → Value.okWide Try.prog W .any base t v := hval0
  have hW' := hW
  obtain ⟨p, q, hA0, hV, rfl, hfz, hnd⟩ := hW
  have hA : DataW.TrodAll enc Try.prog W 0 (fun _ => true) true Try.f4.params.toList args.toList ds p := hA0
  rw [Try.params4] at hA hval
  obtain ⟨v0, vs0, d0, ds0, p0, q0, hargs, rfl, rfl, h0, r0⟩ := trodAll_cons hA
  obtain ⟨v1, vs1, d1, ds1, p1, q1, rfl, rfl, rfl, h1, r1⟩ := trodAll_cons r0
  obtain ⟨rfl, rfl, rfl⟩ := trodAll_nil r1
  obtain rfl : args = #[v0, v1] := by cases args; simp_all
  obtain ⟨rfl, rfl⟩ := trodVars_none hV
  obtain ⟨a0, rfl, rfl, rfl, w0⟩ := open_int Try.underlying3 (hval 0 3 v0 rfl rfl) h0
  obtain ⟨a1, len1, cap1, rfl⟩ := okWide_slice Try.underlying22 (hval 1 22 v1 rfl rfl)
  have k1 := h1
  have lt1 : ∀ x ∈ p1, x.block < W.heap.size := by obtain ⟨m, hm⟩ := k1; exact DataW.trod_lt m _ _ _ hm
  obtain ⟨fuel, hf⟩ := h1
  obtain ⟨hl1, sw, sn, sx, sb, hs, hw⟩ := steps_of (enc := enc) (by simpa [Value.cells] using hf)
  have hb0 := bounds_i64 w0
  clear hA0 hval0
  refine (walk a1 len1 cap1 sw sn sx sb a0 W hl1 hs hw (by omega) (by omega)).mono fun e W' ⟨he, bel⟩ => ?_
  subst he
  exact ⟨_, rfl, _, _, _, [], _, [], hW', trodAll_mk1 (shut_bool Try.underlying4 _), (trodAll_cons_mk (shut_int Try.underlying3 w0) (trodAll_cons_mk (Below.trod laidOut (by kernel_rfl) (of_decide_eq_true (by kernel_rfl)) k1 bel lt1) trodAll_mk0)), rfl, bel.frame _, fun h => by cases h⟩

theorem over : Rows.poolOnceRow.holds Try.pinned (OpenSpec.ofChange Rows.poolOnceSpec) :=
  OpenClaim.holds_of_wide 4 Try.f4 rfl rfl rfl rfl rfl rfl rfl ⟨rfl, rfl, rfl, rfl, rfl⟩ rfl rfl rfl rfl rfl (by kernel_rfl) Try.func4 (by kernel_rfl)
    (of_decide_eq_true (by kernel_rfl)) (by unfold Func.isWrapper; first | (rw [if_pos (by decide +kernel)]; kernel_rfl) | (rw [if_neg (by decide +kernel)]; exact ⟨rfl, rfl⟩))
    (fun os started H enc _ => lifted os started H enc)

end poolOnce

theorem poolOnce_holds : Rows.PoolOnceSaid := poolOnce.over
#print axioms poolOnce_holds
end Go.Proofs.Ytchkepakbflmhaa
