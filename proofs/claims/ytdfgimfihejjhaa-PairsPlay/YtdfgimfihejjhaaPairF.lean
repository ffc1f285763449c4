/- Without of a set: slices.IndexFunc and slices.DeleteFunc with its test. -/
import Derived.Test.YtdfgimfihejjhaaPairE
namespace Go.Proofs.Ytdfgimfihejjhaa
open Go.RowKit Go.Shelf
set_option linter.unusedVariables false

/-- Whether a pair is of a handle. -/
def ofH (h : Int) (p : Pr) : Bool := p.a == h || p.b == h
theorem test_any (cb : Nat) (h : Int) (p : Pr) (w : World) (hc : w.cell? ⟨cb, 0, none⟩ = some (.int .i64 h)) :
    Calls Try.prog 26 #[p.v, .pointer (some ⟨cb, 0, none⟩)] w fun e W => e = .returned (.bool (ofH h p)) ∧ Below w.heap.size w W := by
  obtain ⟨pa, pb⟩ := p
  have hcb : cb < w.heap.size := World.block_lt_of_cell? _ _ hc
  have hB : Below w.heap.size w (w.alloc (.cells #[.int .i64 pa, .int .i64 pb] 35)) := (Below.refl _ w).alloc (Nat.le_refl _) _
  unfold Pr.v ofH
  by_cases e1 : pa = h
  · subst e1
    go_enter Try.func26, Try.ntmps26
    go_wp2
    go_ret
    exact ⟨by simp, hB⟩
  · have e1' : (pa == h) = false := beq_eq_false_iff_ne.2 e1
    go_enter Try.func26, Try.ntmps26
    go_wp2
    go_ret
    exact ⟨by simp [e1'], hB⟩


set_option maxHeartbeats 4000000 in
set_option maxRecDepth 100000 in
theorem index_any (base g cap cb : Nat) (h : Int) (L : List Pr) (w : World) (hown : w.ownsRow base 35 2 (.slice (some ⟨g, 0, none⟩) L.length cap) L.length (flat L)) (hc : w.cell? ⟨cb, 0, none⟩ = some (.int .i64 h)) (hl : L.length ≤ 4096) :
    Calls Try.prog 32 #[.slice (some ⟨g, 0, none⟩) L.length cap, .func (.func 26) #[] #[.pointer (some ⟨cb, 0, none⟩)]] w fun e W =>
      ((∃ i : Nat, e = .returned (.int .i64 (i : Int)) ∧ i < L.length ∧ (∀ j, j < i → ofH h (pt L j) = false) ∧ ofH h (pt L i) = true) ∨ (e = .returned (.int .i64 (-1)) ∧ ∀ j, j < L.length → ofH h (pt L j) = false)) ∧ Below w.heap.size w W := by
  have hcb : cb < w.heap.size := World.block_lt_of_cell? _ _ hc
  have hgw : g < w.heap.size := (hown.lt g rfl).2
  have HO : Hid _ := hown
  clear hown
  go_enter Try.func32, Try.ntmps32
  go_wp2
  go_loopw [8] (fun i wr => ∃ k : Nat, i = .int .i64 (k : Int) ∧ k ≤ L.length ∧ Hid (∀ j, j < k → ofH h (pt L j) = false) ∧ Hid (Below w.heap.size w wr)) (fun i _ => L.length - (intOf i).toNat)
  case atStart => exact ⟨0, rfl, Nat.zero_le _, fun j hj => absurd hj (by omega), Below.refl _ w⟩
  case round =>
    obtain ⟨k, rfl, hk, HN, HB⟩ := hrel
    by_cases hlt : k < L.length
    · have g0 : wr.cell? ⟨g, k * 2, none⟩ = some (.int .i64 (pt L k).a) := (HB.out.cell hgw).trans ((World.ownsRow.cellAt HO.out (k * 2) (by omega)).trans (flat_at0 L k hlt))
      have g1 : wr.cell? ⟨g, k * 2 + 1, none⟩ = some (.int .i64 (pt L k).b) := (HB.out.cell hgw).trans ((World.ownsRow.cellAt HO.out (k * 2 + 1) (by omega)).trans (flat_at1 L k hlt))
      have HT : Hid (Calls Try.prog 26 #[.agg #[.int .i64 (pt L k).a, .int .i64 (pt L k).b], .pointer (some ⟨cb, 0, none⟩)] wr fun e W => e = .returned (.bool (ofH h (pt L k))) ∧ Below wr.heap.size wr W) := test_any cb h (pt L k) wr ((HB.out.cell hcb).trans hc)
      have HNext : Hid (ofH h (pt L k) = false → ∀ j, j < k + 1 → ofH h (pt L j) = false) := fun e j hj => by
        by_cases ej : j = k
        · subst ej; exact e
        · exact HN.out j (by omega)
      generalize hd : ofH h (pt L k) = dd at *
      generalize (pt L k).a = ma at *
      generalize (pt L k).b = mb at *
      have HD : Hid _ := hd
      clear hd
      go_wp2_with (fail)
      refine Calls.mono HT.out ?_
      rintro e W1 ⟨rfl, hb1⟩
      have HB1 : Hid _ := HB.out.trans (hb1.mono HB.out.size)
      clear HT hb1
      cases dd with
      | true =>
        go_wp2_with (fail)
        go_ret
        exact ⟨Or.inl ⟨k, rfl, hlt, HN.out, HD.out⟩, HB1.out⟩
      | false =>
        go_wp2_with (fail)
        go_roundw
        case rel => exact ⟨k + 1, by go_num, by omega, HNext.out (by simp), HB1⟩
        case measure => simp [intOf]; omega
    · obtain rfl : k = L.length := by omega
      go_wp2_with (fail)
      go_ret
      exact ⟨Or.inr ⟨rfl, HN.out⟩, HB.out⟩

/-- A list whose first i are put in place of others: what a round of DeleteFunc leaves. -/
theorem filter_pt {L : List Pr} {f : Pr → Bool} {k : Nat} (hk : k < L.length) : (L.take (k + 1)).filter f = (L.take k).filter f ++ (if f (pt L k) then [pt L k] else []) := by
  rw [List.take_succ_eq_append_getElem hk, List.filter_append]
  have : pt L k = L[k] := by unfold pt; rw [List.getElem?_eq_getElem hk]; rfl
  rw [this]
  congr 1
  simp only [List.filter_cons, List.filter_nil]
theorem filter_pre {L : List Pr} {f : Pr → Bool} {i : Nat} (hi : i ≤ L.length) (h : ∀ j, j < i → f (pt L j) = true) : (L.take i).filter f = L.take i := List.filter_eq_self.2 fun q hq => by
  obtain ⟨j, hj, rfl⟩ := List.mem_iff_getElem.1 hq
  simp only [List.length_take] at hj
  have := h j (by omega)
  unfold pt at this
  rw [List.getElem?_eq_getElem (by omega)] at this
  rw [List.getElem_take]
  exact this

/-- The row half way: its first ones are those that stay, from k on it is as it was. -/
def Half (L : List Pr) (f : Pr → Bool) (k : Nat) (xs : List Value) : Prop :=
  xs.length = L.length * 2 ∧ xs.take (((L.take k).filter f).length * 2) = flat ((L.take k).filter f) ∧ ∀ j, k * 2 ≤ j → j < L.length * 2 → xs[j]? = (flat L)[j]?
theorem half_len {L : List Pr} {f : Pr → Bool} {k : Nat} (hk : k ≤ L.length) : ((L.take k).filter f).length ≤ k := Nat.le_trans (List.length_filter_le _ _) (by simp; omega)
theorem half_skip {L : List Pr} {f : Pr → Bool} {k : Nat} {xs : List Value} (h : Half L f k xs) (hk : k < L.length) (hf : f (pt L k) = false) : Half L f (k + 1) xs := by
  have e : (L.take (k + 1)).filter f = (L.take k).filter f := by rw [filter_pt hk, hf]; simp
  refine ⟨h.1, ?_, fun j hj hl => h.2.2 j (by omega) hl⟩
  rw [e]; exact h.2.1
theorem half_keep {L : List Pr} {f : Pr → Bool} {k : Nat} {xs : List Value} (h : Half L f k xs) (hk : k < L.length) (hf : f (pt L k) = true) {i : Nat} (hi : i = ((L.take k).filter f).length) :
    Half L f (k + 1) ((xs.set (i * 2) (.int .i64 (pt L k).a)).set (i * 2 + 1) (.int .i64 (pt L k).b)) := by
  have e : (L.take (k + 1)).filter f = (L.take k).filter f ++ [pt L k] := by rw [filter_pt hk, hf]; simp
  have hik : i ≤ k := by rw [hi]; exact half_len (by omega)
  refine ⟨by simpa using h.1, ?_, fun j hj hl => ?_⟩
  · rw [e, flat_append, List.length_append, ← hi]
    have e2 : (i + [pt L k].length) * 2 = i * 2 + 1 + 1 := by simp; omega
    have hl := h.1
    rw [e2, List.take_succ_eq_append_getElem (by simp; omega), List.take_succ_eq_append_getElem (by simp; omega)]
    have t1 : ((xs.set (i * 2) (.int .i64 (pt L k).a)).set (i * 2 + 1) (.int .i64 (pt L k).b)).take (i * 2) = flat ((L.take k).filter f) := by
      rw [List.take_set_of_le (by omega), List.take_set_of_le (by omega), hi]; exact h.2.1
    rw [t1, List.append_assoc]
    congr 1
    simp only [List.getElem_set, flat]
    simp
  · rw [List.getElem?_set_ne (by omega), List.getElem?_set_ne (by omega)]
    exact h.2.2 j (by omega) hl

set_option maxHeartbeats 4000000 in
set_option maxRecDepth 100000 in
/-- slices.DeleteFunc by that test. -/
theorem deletefunc_any (base g cap cb : Nat) (h : Int) (L : List Pr) (w : World) (hown : w.ownsRow base 35 2 (.slice (some ⟨g, 0, none⟩) L.length cap) L.length (flat L)) (hc : Boxed w cb 33 (.int .i64 h)) (hl : L.length ≤ 4096) :
    Calls Try.prog 25 #[.slice (some ⟨g, 0, none⟩) L.length cap, .func (.func 26) #[] #[.pointer (some ⟨cb, 0, none⟩)]] w fun e W =>
      e = .returned (.slice (some ⟨g, 0, none⟩) (L.filter (fun q => !ofH h q)).length cap) ∧ W.ownsRow base 35 2 (.slice (some ⟨g, 0, none⟩) (L.filter (fun q => !ofH h q)).length cap) (L.filter (fun q => !ofH h q)).length (flat (L.filter (fun q => !ofH h q))) ∧ w.grownBy W (some g) := by
  have hcc := hc.cell
  have hcb : cb < w.heap.size := World.block_lt_of_cell? _ _ hcc
  have hgw : g < w.heap.size := (hown.lt g rfl).2
  have hne : cb ≠ g := fun e => by
    obtain ⟨cur, _, hg, _⟩ := owns_cur hown
    rw [← e, show w.heap[cb]? = _ from hc] at hg
    simp at hg
  obtain ⟨_, _, _, hnc, hcm, _⟩ := owns_cur hown
  have hcm' : cap ≤ 9223372036854775807 := by unfold maxLen at hcm; omega
  have HO : Hid _ := hown
  have HC : Hid _ := hc
  have HX : Hid _ := index_any base g cap cb h L w hown hcc hl
  obtain ⟨f, hf⟩ : ∃ f : Pr → Bool, f = fun q => !ofH h q := ⟨_, rfl⟩
  have HFT : Hid (∀ q, f q = !ofH h q) := fun q => by rw [hf]
  rw [← hf]
  clear hf
  clear hown hc hcm
  go_enter Try.func25, Try.ntmps25
  go_wp2_with (fail)
  refine Calls.mono HX.out ?_
  clear HX
  rintro e W0 ⟨⟨i, rfl, hi, hpre, hat⟩ | ⟨rfl, hnone⟩, hb0⟩
  · have HPre : Hid _ := hpre
    have HAt : Hid _ := hat
    have HB0 : Hid _ := hb0
    clear hpre hat hb0
    have hi1 : ¬ ((i : Int) = -1) := by omega
    have hi2 : ((i : Int) == -1) = false := beq_eq_false_iff_ne.2 hi1
    have hft := HFT.out
    have e1 : (L.take (i + 1)).filter f = L.take i := by
      rw [filter_pt hi, filter_pre (by omega) (fun j hj => by rw [hft, HPre.out j hj]; rfl), hft, HAt.out]
      simp
    have e2 : ((L.take (i + 1)).filter f).length = i := by rw [e1]; simp; omega
    have HH0 : Hid (Half L f (i + 1) (flat L)) := ⟨flat_length L, by rw [e2, flat_take, e1], fun j _ _ => rfl⟩
    have HLT : Hid ((L.filter f).length < L.length) := by
      refine List.length_filter_lt_length_iff_exists.2 ⟨pt L i, pt_mem hi, ?_⟩
      rw [hft, HAt.out]; simp
    have HG0 : Hid (w.grownBy W0 (some g)) := below_grown HB0.out _
    have HO0 : Hid (W0.ownsRow base 35 2 (.slice (some ⟨g, 0, none⟩) L.length cap) L.length (flat L)) := World.ownsRow.kept HO.out (below_grown HB0.out none) (Or.inr (by simp [Value.ownBlock]))
    have HE2 : Hid _ := e2
    clear hft e1 e2 HPre HAt HO
    go_wp2_with (fail)
    go_loopw [5, 6] (fun a b wr => ∃ (k : Nat) (xs : List Value), a = .int .i64 (((L.take k).filter f).length : Int) ∧ b = .int .i64 (k : Int) ∧ k ≤ L.length ∧ Hid (Half L f k xs) ∧ Hid (wr.ownsRow base 35 2 (.slice (some ⟨g, 0, none⟩) L.length cap) L.length xs) ∧ Hid (w.grownBy wr (some g))) (fun _ b _ => L.length - (intOf b).toNat)
    case atStart => exact ⟨i + 1, flat L, by rw [HE2.out], by go_num, by omega, HH0, HO0, HG0⟩
    case round =>
      obtain ⟨k, xs, rfl, rfl, hk, HH, HW, HG⟩ := hrel
      have hn := half_len (f := f) hk
      obtain ⟨n, hnn⟩ : ∃ n, n = ((L.take k).filter f).length := ⟨_, rfl⟩
      rw [← hnn] at hn ⊢
      have HNN : Hid _ := hnn
      clear hnn
      have hgl : g < wr.heap.size := Nat.lt_of_lt_of_le hgw HG.out.size
      have hcl : cb < wr.heap.size := Nat.lt_of_lt_of_le hcb HG.out.size
      by_cases hlt : k < L.length
      · have g0 : wr.cell? ⟨g, k * 2, none⟩ = some (.int .i64 (pt L k).a) := (World.ownsRow.cellAt HW.out (k * 2) (by omega)).trans ((HH.out.2.2 _ (by omega) (by omega)).trans (flat_at0 L k hlt))
        have g1 : wr.cell? ⟨g, k * 2 + 1, none⟩ = some (.int .i64 (pt L k).b) := (World.ownsRow.cellAt HW.out (k * 2 + 1) (by omega)).trans ((HH.out.2.2 _ (by omega) (by omega)).trans (flat_at1 L k hlt))
        have cc : wr.cell? ⟨cb, 0, none⟩ = some (.int .i64 h) := HG.out.cell hcc (by simp [hne])
        have HT : Hid (Calls Try.prog 26 #[.agg #[.int .i64 (pt L k).a, .int .i64 (pt L k).b], .pointer (some ⟨cb, 0, none⟩)] (wr.alloc (.cells #[.int .i64 (pt L k).a, .int .i64 (pt L k).b] 35)) fun e W => e = .returned (.bool (ofH h (pt L k))) ∧ Below (wr.heap.size + 1) (wr.alloc (.cells #[.int .i64 (pt L k).a, .int .i64 (pt L k).b] 35)) W) := by
          have := test_any cb h (pt L k) (wr.alloc (.cells #[.int .i64 (pt L k).a, .int .i64 (pt L k).b] 35)) (by rw [World.cell?_alloc_past _ _ _ hcl]; exact cc)
          rw [World.size_alloc] at this
          exact this
        have HSK : Hid (ofH h (pt L k) = true → Half L f (k + 1) xs ∧ ((L.take (k + 1)).filter f).length = n) := fun e => by
          have e' : f (pt L k) = false := by rw [HFT.out, e]; rfl
          exact ⟨half_skip HH.out hlt e', by rw [filter_pt hlt, e', HNN.out]; simp⟩
        have HKP : Hid (ofH h (pt L k) = false → Half L f (k + 1) ((xs.set (n * 2) (.int .i64 (pt L k).a)).set (n * 2 + 1) (.int .i64 (pt L k).b)) ∧ ((L.take (k + 1)).filter f).length = n + 1) := fun e => by
          have e' : f (pt L k) = true := by rw [HFT.out, e]; rfl
          exact ⟨half_keep HH.out hlt e' HNN.out, by rw [filter_pt hlt, e', HNN.out]; simp⟩
        generalize hd : ofH h (pt L k) = dd at *
        generalize (pt L k).a = ma at *
        generalize (pt L k).b = mb at *
        clear hd
        have hnl : n < L.length := by omega
        go_wp2_with (fail)
        refine Calls.mono HT.out ?_
        clear HT
        rintro e W1 ⟨rfl, hb1⟩
        have v0 : W1.cell? ⟨wr.heap.size, 0, none⟩ = some (.int .i64 ma) := (hb1.cell (by simp)).trans (by simp [go_sem])
        have v1 : W1.cell? ⟨wr.heap.size, 1, none⟩ = some (.int .i64 mb) := (hb1.cell (by simp)).trans (by simp [go_sem])
        have HB1 : Hid (Below wr.heap.size wr W1) := ((Below.refl _ wr).alloc (Nat.le_refl _) _).trans (hb1.mono (by omega))
        have HW1 : Hid (W1.ownsRow base 35 2 (.slice (some ⟨g, 0, none⟩) L.length cap) L.length xs) := World.ownsRow.kept HW.out (below_grown HB1.out none) (Or.inr (by simp [Value.ownBlock]))
        have HG1 : Hid (w.grownBy W1 (some g)) := G.below HG.out HB1.out
        clear hb1
        cases dd with
        | true =>
          go_wp2_with (fail)
          go_roundw
          case rel => exact ⟨k + 1, xs, by rw [(HSK.out (by simp)).2], by go_num, by omega, (HSK.out (by simp)).1, HW1, HG1⟩
          case measure => simp [intOf]; omega
        | false =>
          have hxl := HH.out.1
          obtain ⟨x0, hx0⟩ : ∃ x, W1.cell? ⟨g, n * 2, none⟩ = some x := ⟨_, (World.ownsRow.cellAt HW1.out (n * 2) (by omega)).trans (List.getElem?_eq_getElem (by omega))⟩
          obtain ⟨x1, hx1⟩ : ∃ x, W1.cell? ⟨g, n * 2 + 1, none⟩ = some x := ⟨_, (World.ownsRow.cellAt HW1.out (n * 2 + 1) (by omega)).trans (List.getElem?_eq_getElem (by omega))⟩
          have f0 := World.ownsRow.frozenAt HW1.out (n * 2)
          have f1 := World.ownsRow.frozenAt HW1.out (n * 2 + 1)
          clear hxl
          go_wp2_with (fail)
          go_roundw
          case rel =>
            have a1 := World.ownsRow.stored HW1.out (n * 2) (.int .i64 ma)
            have a2 := World.ownsRow.stored a1.1 (n * 2 + 1) (.int .i64 mb)
            exact ⟨k + 1, _, by rw [(HKP.out (by simp)).2]; go_num, by go_num, by omega, (HKP.out (by simp)).1, a2.1, (HG1.out.trans a1.2).trans a2.2⟩
          case measure => simp [intOf]; omega
      · obtain rfl : k = L.length := by omega
        have hnl : n < L.length := by have := HLT.out; rw [HNN.out, List.take_length]; exact this
        have HN2 : Hid (n = (L.filter f).length) := by
          show n = _
          rw [HNN.out, List.take_length]
        obtain ⟨cur, hb9, hg9, hnc9, hcm9, hcs9, htk9⟩ := owns_cur HW.out
        obtain ⟨cur2, hr2, hs2, ht2⟩ := clear_row (P := Try.prog) wr 43 35 0 _ 2 Try.underlying43 pair_zero rfl (by intro v hv; simp [Value.cells] at hv; subst hv; rfl) (by omega) g (n * 2) (L.length - n) (cap - n) cur _ hg9 (by rw [hcs9]; omega)
        have hcl2 : ∀ ty, (Builtin.clear_ #[43] ty #[.slice (some ⟨g, n * 2, none⟩) (L.length - n) (cap - n)]).run Try.prog wr = .ok (.tuple #[]) (wr.setRow g cur2) := fun ty => hr2
        have hfin : (wr.setRow g cur2).ownsRow base 35 2 (.slice (some ⟨g, 0, none⟩) n cap) n (flat (L.filter f)) := by
          refine owns_set hb9 hg9 (by omega) hcm9 cur2 (by rw [hs2]; exact hcs9) ?_ (by rw [flat_length, HN2.out])
          have t1 := HH.out.2.1
          rw [← HNN.out, List.take_length, ← htk9, List.take_take, Nat.min_eq_left (by omega)] at t1
          rw [ht2]; exact t1
        have HF : Hid _ := And.intro hfin (HG.out.trans (grown_set wr g cur2))
        have hb5 : ¬ (cap = n) := by omega
        have hb6 : n ≤ cap := by omega
        clear hr2 hs2 ht2 hfin hg9 hcs9 htk9 hcm9 hb9 hnc9
        go_wp2_with (fail)
        go_ret
        rw [← HN2.out]
        exact ⟨rfl, HF.out⟩
  · have e1 : L.filter f = L := List.filter_eq_self.2 fun q hq => by
      obtain ⟨j, hj, rfl⟩ := List.mem_iff_getElem.1 hq
      have := hnone j hj
      unfold pt at this
      rw [List.getElem?_eq_getElem hj] at this
      simp only [Option.getD_some] at this
      rw [HFT.out, this]; rfl
    have HE : Hid _ := e1
    have HB0 : Hid _ := hb0
    clear e1 hb0 hnone
    go_wp2_with (fail)
    go_ret
    rw [HE.out]
    exact ⟨rfl, World.ownsRow.kept HO.out (below_grown HB0.out none) (Or.inr (by simp [Value.ownBlock])), below_grown HB0.out _⟩
end Go.Proofs.Ytdfgimfihejjhaa
