/- Package island: Members and Rest. -/
import Derived.Test.YtdbiikllcplmgaaIsC
import Derived.Maps.OwnSet
namespace Go.Proofs.Ytdbiikllcplmgaa
open Go.RowKit Go.Shelf Go.Maps
set_option linter.unusedVariables false

/-- A list of numbers of the call's own. -/
structure IOwn (w W : World) (u : Value) (M : List Int) : Prop where
  row : W.ownsRow w.heap.size 3 1 u M.length (ints M)
  below : Below w.heap.size w W
theorem IOwn.app {w A B : World} {u u' : Value} {M : List Int} {z : Int} (h : IOwn w A u M) (hr : B.ownsRow w.heap.size 3 1 u' (M.length + 1) (ints M ++ [.int .i64 z])) (hg : A.grownBy B u.ownBlock) : IOwn w B u' (M ++ [z]) :=
  ⟨by rw [List.length_append, show ints (M ++ [z]) = ints M ++ [.int .i64 z] by simp [ints]]; exact hr, h.below.grown hg h.below.size (fun k e => (h.row.lt k e).1)⟩
theorem IOwn.step {w A B : World} {u : Value} {M : List Int} (h : IOwn w A u M) (hb : Below A.heap.size A B) : IOwn w B u M := ⟨own_below h.row hb, b_step h.below hb⟩
theorem IOwn.start (w : World) : IOwn w w (.slice none 0 0) [] := ⟨World.ownsRow_nil _ _ _ _, Below.refl _ _⟩
set_option maxHeartbeats 1000000 in
set_option maxRecDepth 100000 in
theorem members_any (v : Value) (L : List Int) (z : Int) (w : World) (hr : RdI w v L) (hlen : L.length ≤ 1099511627776) :
    Calls Try.prog 13 #[v, .int .i64 z] w fun e W => ∃ u, e = .returned u ∧ IOwn w W u (memb L z L.length) := by
  obtain ⟨i0, hii, hiz, hisz, hib⟩ := info_parts int_info
  have HI : Hid _ := And.intro hii (And.intro hiz (And.intro hisz hib))
  clear hii hiz hisz hib
  obtain ⟨o, cp, rfl, hlc, hcm, hcell⟩ := hr.form
  have HC : Hid _ := hcell
  clear hr hcell
  obtain ⟨R, hR⟩ : ∃ R, memb L z L.length = R := ⟨_, rfl⟩
  rw [hR]
  have HR : Hid _ := hR
  clear hR
  go_enter Try.func13, Try.ntmps13
  go_wp2_with (fail)
  go_loopg [5, 10] L.length (fun gm u j wr => ∃ k : Nat, j = .int .i64 (k : Int) ∧ k ≤ L.length ∧ gm = L.length - k ∧ Hid (IOwn w wr u (memb L z k)))
  case atStart => exact ⟨0, rfl, Nat.zero_le _, rfl, IOwn.start w⟩
  case round =>
    obtain ⟨k, rfl, hk, hgm, HO⟩ := hrel
    have HM : Hid _ := hgm
    clear hgm
    by_cases hlt : k < L.length
    · obtain ⟨g', off, x, rfl, hz, x0⟩ := HC.out k hlt
      have x0 := c_after HO.out.below x0
      by_cases e : x = z
      · subst e
        have HY : Hid _ := memb_yes hz
        have hml := memb_length L x k
        clear hz HC
        go_wp2_with (at_builtin; refine wpList_append_own_at _ rfl _ _ 24 rfl w.heap.size 3 i0 _ 1 8 Try.underlying24 HI.out.1 HI.out.2.1 HI.out.2.2.1 HI.out.2.2.2 rfl (by decide) _ _ _ rfl (HO.out.row.alloc _) ⟨wr.heap.size, 0, none⟩ 1 1 [.int .i64 (k : Int)] rfl rfl (cell_one_new _ _ _) (by intro u hu; simp at hu; subst hu; rfl) (by unfold maxLen; omega) (by omega) (by have := HO.out.below.size; simp; omega) ?_; intro u9 V2 r8 g8 _ s8)
        have HO2 : Hid _ := (HO.out.step (n_after wr _)).app r8 g8
        clear HO r8 g8 s8
        go_wp2_with (fail)
        go_roundg (L.length - (k + 1))
        case measure => have := HM.out; omega
        case rel => exact ⟨k + 1, by go_num, by omega, rfl, by rw [HY.out]; exact HO2.out⟩
      · have HY : Hid _ := memb_no (L := L) (z := z) (k := k) (by rw [hz]; intro h; exact e (Option.some.inj h))
        have e1 : (x == z) = false := beq_eq_false_iff_ne.2 e
        clear hz HC e
        go_wp2_with (fail)
        go_roundg (L.length - (k + 1))
        case measure => have := HM.out; omega
        case rel => exact ⟨k + 1, by go_num, by omega, rfl, by rw [HY.out]; exact HO⟩
    · have e : k = L.length := by omega
      subst e
      go_wp2_with (fail)
      go_ret
      exact ⟨_, rfl, by rw [← HR.out]; exact HO.out⟩

/-- A row of bools that may be written. -/
structure BRow (W : World) (g N : Nat) (T : Nat → Bool) : Prop where
  cell : ∀ i, i < N → W.cell? ⟨g, i, none⟩ = some (.bool (T i))
  fro : ∀ i, i < N → W.frozen? ⟨g, i, none⟩ = false
def updB (T : Nat → Bool) (k : Nat) (x : Bool) : Nat → Bool := fun i => if i = k then x else T i
theorem updB_same (T : Nat → Bool) (k : Nat) (x : Bool) : updB T k x k = x := by simp [updB]
theorem updB_other (T : Nat → Bool) (k : Nat) (x : Bool) (i : Nat) (h : i ≠ k) : updB T k x i = T i := by simp [updB, h]
theorem BRow.set {W : World} {g N : Nat} {T : Nat → Bool} (h : BRow W g N T) {k : Nat} (hk : k < N) (x : Bool) : BRow (W.setCell ⟨g, k, none⟩ (.bool x)) g N (updB T k x) := by
  have hc := h.cell k hk
  refine ⟨fun i hi => ?_, fun i hi => ?_⟩
  · by_cases e : i = k
    · subst e; rw [updB_same]; simp [go_sem, hc]
    · rw [updB_other _ _ _ _ e]
      have := h.cell i hi
      simp [go_sem, this]
  · have := h.fro i hi
    simp [go_sem, this]
theorem BRow.of_row {W : World} {base g N c : Nat} {T : Nat → Bool} {cs : List Value} (h : W.ownsRow base 4 1 (.slice (some ⟨g, 0, none⟩) N c) N cs) (hT : ∀ i, i < N → cs[i]? = some (.bool (T i))) : BRow W g N T :=
  ⟨fun i hi => (h.cellAt i (by omega)).trans (hT i hi), fun i hi => h.frozenAt i⟩
theorem BRow.kept {W X : World} {g N : Nat} {T : Nat → Bool} {row : Option Nat} (h : BRow W g N T) (k : W.grownBy X row) (hne : some g ≠ row) : BRow X g N T :=
  ⟨fun i hi => k.cell (h.cell i hi) hne, fun i hi => (World.frozen?_of_block (k.block g (World.block_lt_of_cell? _ _ (h.cell i hi)) hne)).trans (h.fro i hi)⟩
theorem BRow.below {w W : World} {g N : Nat} {T : Nat → Bool} (h : BRow w g N T) (hb : Below w.heap.size w W) : BRow W g N T := h.kept (below_grown hb none) (by simp)
theorem BRow.rd {W : World} {g : Nat} {T : Nat → Bool} {L : List Bool} (h : BRow W g L.length T) (hT : ∀ i, i < L.length → L[i]? = some (T i)) (h2 : L.length ≤ 9223372036854775807) : RdB W (.slice (some ⟨g, 0, none⟩) L.length L.length) L :=
  ⟨some ⟨g, 0, none⟩, L.length, rfl, Nat.le_refl _, h2, fun k hk => ⟨g, 0, T k, rfl, hT k hk, by rw [Nat.zero_add]; exact h.cell k hk⟩⟩
theorem law3 : Keyed Try.prog 3 := int_keyed Try.underlying3
theorem zero45 (w : World) : (zeroValue 45).run Try.prog w = .ok (.agg #[]) w := by kernel_rfl
/-- Which groups are not quiet, up to k. -/
structure LMap (w W : World) (L Q : List Int) (need : Int) (k : Nat) : Prop where
  map : ∃ D : DataW Unit, W.ownsMap Try.prog 3 unitElem w.heap.size k D ∧ ∀ z, Maps.has D (.int .i64 z) = loud L Q need z k
  below : Below w.heap.size w W
  size : w.heap.size < W.heap.size
theorem LMap.step {w A B : World} {L Q : List Int} {need : Int} {k : Nat} (h : LMap w A L Q need k) (hb : Below A.heap.size A B) : LMap w B L Q need k :=
  ⟨by obtain ⟨D, h1, h2⟩ := h.map; exact ⟨D, h1.kept (below_grown hb none) (by simp), h2⟩, b_step h.below hb, Nat.lt_of_lt_of_le h.size hb.size⟩
theorem LMap.quiet {w A : World} {L Q : List Int} {need : Int} {k : Nat} (h : LMap w A L Q need k) (hq : ¬ Q[k]?.getD 0 < need) : LMap w A L Q need (k + 1) :=
  ⟨by obtain ⟨D, h1, h2⟩ := h.map; exact ⟨D, h1.mono (Nat.le_succ _), fun z => by rw [h2, loud, decide_eq_false hq]; simp⟩, h.below, h.size⟩
theorem LMap.noisy {w A B : World} {L Q : List Int} {need x : Int} {k : Nat} {D : DataW Unit} {u : DataW Unit} (h : LMap w A L Q need k) (hD : ∀ z, Maps.has D (.int .i64 z) = loud L Q need z k) (hm : Maps.IsMap D) (hx : L[k]? = some x) (hq : Q[k]?.getD 0 < need) (ho : B.ownsMap Try.prog 3 unitElem w.heap.size (k + 1) (D.put (.int .i64 x) u)) (hg : A.grownBy B (some w.heap.size)) : LMap w B L Q need (k + 1) := by
  refine ⟨⟨_, ho, fun z => ?_⟩, h.below.grown hg h.below.size (fun j e => by cases e; exact Nat.le_refl _), Nat.lt_of_lt_of_le h.size hg.size⟩
  rw [loud, decide_eq_true hq, hx]
  by_cases e : z = x
  · subst e
    rw [has_put_same (k := .int .i64 z) hm (by simp [WideAt.IsKeyLit])]
    simp
  · rw [has_put_other (by intro h; cases h; exact e rfl), hD]
    have : ¬ x = z := fun h => e h.symm
    simp [this]
set_option maxHeartbeats 1000000 in
set_option maxRecDepth 100000 in
theorem rest_any (v vq : Value) (L Q : List Int) (need : Int) (w : World) (hr : RdI w v L) (hq : RdI w vq Q) (hlen : L.length ≤ 1099511627776) (hb : ∀ z ∈ L, -9223372036854775808 ≤ z ∧ z ≤ 9223372036854775807) :
    Calls Try.prog 11 #[v, vq, .int .i64 need] w fun e W => ∃ u, e = .returned u ∧ RdB W u (rests L Q need) ∧ Below w.heap.size w W := by
  obtain ⟨i0, hii, hiz, hisz, hib⟩ := info_parts bool_info
  have HI : Hid _ := And.intro hii (And.intro hiz (And.intro hisz hib))
  clear hii hiz hisz hib
  have hmm := @run_makeMap Try.prog
  obtain ⟨o, cp, rfl, hlc, hcm, hcell⟩ := hr.form
  have HC : Hid _ := hcell
  have HQ : Hid _ := hq
  obtain ⟨oq, cq, rfl, _⟩ := hq.form
  have HB : Hid _ := hb
  clear hr hcell hq hb
  obtain ⟨R, hR⟩ : ∃ R, rests L Q need = R := ⟨_, rfl⟩
  rw [hR]
  have HR : Hid _ := hR
  clear hR
  go_enter Try.func11, Try.ntmps11
  go_wp2_with (fail)
  go_loopg [8, 9, 18] L.length (fun gm u8 u9 j wr => ∃ k : Nat, j = .int .i64 (k : Int) ∧ k ≤ L.length ∧ gm = L.length - k ∧ Hid (LMap w wr L Q need k))
  case atStart => exact ⟨0, rfl, Nat.zero_le _, rfl, ⟨_, World.ownsMap_made _ _ _ _, fun z => rfl⟩, n_after w _, by simp⟩
  case round =>
    obtain ⟨k, rfl, hk, hgm, HO⟩ := hrel
    have HM : Hid _ := hgm
    clear hgm
    by_cases hlt : k < L.length
    · obtain ⟨g', off, x, rfl, hz, x0⟩ := HC.out k hlt
      have x0 := c_after HO.out.below x0
      have HQA : Hid _ := quiet_any _ Q k wr (HQ.out.below HO.out.below) (by omega)
      have hkey : keyOf Try.prog 3 (.int .i64 x) = some (.int .i64 x) := keyOf_int_mk Try.underlying3 (WalkArith.wf_i64 (HB.out x (List.mem_of_getElem? hz)))
      obtain ⟨D, h1, h2⟩ := HO.out.map
      have HD : Hid _ := And.intro h1 h2
      have HZ : Hid _ := hz
      clear h1 h2 hz HC
      by_cases hqk : Q[k]?.getD 0 < need
      · have HN : Hid (∀ {B : World} {u : DataW Unit}, B.ownsMap Try.prog 3 unitElem w.heap.size (k + 1) (D.put (.int .i64 x) u) → wr.grownBy B (some w.heap.size) → LMap w B L Q need (k + 1)) := fun ho hg => HO.out.noisy HD.out.2 HD.out.1.isMap HZ.out hqk ho hg
        generalize Q[k]?.getD 0 = qk at *
        go_wp2_with (fail)
        refine Calls.mono HQA.out ?_
        clear HQA
        rintro e W2 ⟨rfl, rfl⟩
        go_wp2_with (at_mapUpdate; refine wpList_mapUpdate_own _ rfl _ _ _ 43 rfl 3 45 law3 Try.underlying43 (unitElem (H := Unit)) w.heap.size k _ rfl HD.out.1 (by unfold maxLen; omega) _ _ _ rfl rfl hkey _ [] unitElem_mk ?_; intro w1 hown1 hgrow1)
        have HN2 : Hid _ := HN.out hown1 hgrow1
        clear HN hown1 hgrow1
        go_wp2_with (fail)
        go_roundg (L.length - (k + 1))
        case measure => have := HM.out; omega
        case rel => exact ⟨k + 1, by go_num, by omega, rfl, HN2⟩
      · have HN : Hid _ := HO.out.quiet hqk
        generalize Q[k]?.getD 0 = qk at *
        go_wp2_with (fail)
        refine Calls.mono HQA.out ?_
        clear HQA
        rintro e W2 ⟨rfl, rfl⟩
        go_wp2_with (fail)
        go_roundg (L.length - (k + 1))
        case measure => have := HM.out; omega
        case rel => exact ⟨k + 1, by go_num, by omega, rfl, HN⟩
    · have e : k = L.length := by omega
      subst e
      clear HQ
      have hsz := HO.out.below.size
      go_wp2_with (refine wpList_make_full _ rfl _ _ 23 rfl wr.heap.size 4 i0 _ 1 Try.underlying23 HI.out.1 HI.out.2.1 HI.out.2.2.1 .i64 .i64 _ _ L.length rfl rfl rfl rfl (by rw [HI.out.2.2.2]; omega) (by unfold maxLen; omega) (Nat.le_refl _) ?_; intro W1 r1 g1)
      have hc : (madeCells (Value.bool false).cells (L.length * 1)).toList = List.replicate L.length (.bool false) := by rw [Nat.mul_one]; exact toList_madeCells_one _ _
      rw [hc] at r1
      have HRo : Hid (BRow W1 wr.heap.size L.length (fun _ => false)) := BRow.of_row r1 (fun i hi => by rw [List.getElem?_replicate, if_pos hi])
      have HO1 : Hid (LMap w W1 L Q need L.length) := HO.out.step ⟨g1.os, g1.tape, g1.output, g1.size, fun k hk => g1.block k (by omega) (by simp)⟩
      have HLT : Hid (w.heap.size < wr.heap.size) := HO.out.size
      clear r1 g1 hc HO hsz HI
      generalize wr.heap.size = og at *
      go_loopg [11, 12, 13, 14, 37] L.length (fun gm u11 u12 u13 u14 j wx => ∃ k : Nat, j = .int .i64 (k : Int) ∧ k ≤ L.length ∧ gm = L.length - k ∧ ∃ U, Hid (∀ i, i < k → (rests L Q need)[i]? = some (U i)) ∧ Hid (BRow wx og L.length U) ∧ Hid (LMap w wx L Q need L.length))
      case atStart => exact ⟨0, rfl, Nat.zero_le _, rfl, _, fun i hi => absurd hi (by omega), HRo.out, HO1.out⟩
      case round =>
        clear HRo HO1
        obtain ⟨k, rfl, hk, hgm, U, HU, HRo, HO⟩ := hrel
        have HM2 : Hid _ := hgm
        clear hgm
        by_cases hlt : k < L.length
        · obtain ⟨g', off, x, rfl, hz, x0⟩ := HC.out k hlt
          have x0 := c_after HO.out.below x0
          have hkey : keyOf Try.prog 3 (.int .i64 x) = some (.int .i64 x) := keyOf_int_mk Try.underlying3 (WalkArith.wf_i64 (HB.out x (List.mem_of_getElem? hz)))
          obtain ⟨D, h1, h2⟩ := HO.out.map
          have h3 := h2 x
          have h4 := rests_at Q need hz
          rw [← h3] at h4
          have HD : Hid _ := h1
          have H4 : Hid _ := h4
          have HO1 : Hid _ := HO.out.step (n_after wr (.cells #[] 45))
          have HR1 : Hid _ := HRo.out.below (n_after wr (.cells #[] 45))
          have hc := HR1.out.cell k hlt
          have hf := HR1.out.fro k hlt
          have HR2 : Hid _ := HR1.out.set hlt (!(Maps.has D (.int .i64 x)))
          have HO2 : Hid (LMap w ((wr.alloc (.cells #[] 45)).setCell ⟨og, k, none⟩ (.bool (!(Maps.has D (.int .i64 x))))) L Q need L.length) :=
            ⟨by obtain ⟨D', h1, h2⟩ := HO1.out.map; exact ⟨D', h1.setCell (by have := HLT.out; show w.heap.size ≠ og; omega) _, h2⟩, HO1.out.below.setCell (by have := HLT.out; show w.heap.size ≤ og; omega) _, by have := HO1.out.size; simpa [World.setCell] using this⟩
          have U2 : Hid (∀ i, i < k + 1 → (rests L Q need)[i]? = some (updB U k (!(Maps.has D (.int .i64 x))) i)) := fun i hi => by
            by_cases e : i = k
            · subst e; rw [updB_same]; exact H4.out
            · rw [updB_other _ _ _ _ e]; exact HU.out i (by omega)
          clear h1 h2 h3 h4 hz HC HO HRo HU HO1 HR1 H4
          go_wp2_with (at_lookup; refine wpList_lookup_own_unit _ rfl _ _ 43 rfl 3 45 law3 Try.underlying43 (zero45 _) w.heap.size L.length _ rfl HD.out _ _ rfl hkey ?_)
          go_wp2_with (fail)
          go_roundg (L.length - (k + 1))
          case measure => have := HM2.out; omega
          case rel => exact ⟨k + 1, by go_num, by omega, rfl, _, U2.out, HR2.out, HO2.out⟩
        · have e : k = L.length := by omega
          subst e
          go_wp2_with (fail)
          go_ret
          refine ⟨_, rfl, ?_, HO.out.below⟩
          rw [← HR.out]
          have hl := rests_length L Q need
          have := BRow.rd (L := rests L Q need) (by rw [hl]; exact HRo.out) (by rw [hl]; exact HU.out) (by rw [hl]; omega)
          rw [hl] at this
          exact this
end Go.Proofs.Ytdbiikllcplmgaa
