/- Without of a set; going through a set; two lists held against one another. -/
import Derived.Test.YtdfgimfihejjhaaPairF
import Derived.Test.YtdfgimfihejjhaaRangeK
namespace Go.Proofs.Ytdfgimfihejjhaa
open Go.RowKit Go.Shelf
set_option linter.unusedVariables false

set_option maxHeartbeats 1000000 in
theorem index_nil (fv : Value) (w : World) : Calls Try.prog 32 #[.slice none 0 0, fv] w fun e W => e = .returned (.int .i64 (-1)) ∧ W = w := by
  go_enter Try.func32, Try.ntmps32
  go_wp2
  go_loopw [8] (fun i wr => i = .int .i64 0 ∧ wr = w) (fun _ _ => 0)
  case atStart => exact ⟨rfl, rfl⟩
  case round =>
    obtain ⟨rfl, rfl⟩ := hrel
    go_wp2
    go_ret
    exact ⟨rfl, rfl⟩
set_option maxHeartbeats 1000000 in
theorem deletefunc_nil (fv : Value) (w : World) : Calls Try.prog 25 #[.slice none 0 0, fv] w fun e W => e = .returned (.slice none 0 0) ∧ W = w := by
  go_enter Try.func25, Try.ntmps25
  go_wp2_with (fail)
  refine (index_nil fv w).mono ?_
  rintro e W ⟨rfl, rfl⟩
  go_wp2_with (fail)
  go_ret
  exact ⟨rfl, rfl⟩

set_option maxHeartbeats 4000000 in
set_option maxRecDepth 100000 in
theorem without_any (sp base : Nat) (v : Value) (room : Nat) (L : List Pr) (h : Int) (w : World) (hs : IsSet w sp base v room L) :
    Calls Try.prog 12 #[.pointer (some ⟨sp, 0, none⟩), .int .i64 h] w fun e W => e = .returned (.int .i64 ((L.length : Int) - ((L.filter (fun q => !ofH h q)).length : Int))) ∧ ∃ v', IsSet W sp base v' room (L.filter (fun q => !ofH h q)) ∧ Ch w W sp v.ownBlock ∧ v'.ownBlock = v.ownBlock := by
  have hB0 : Below w.heap.size w (w.alloc (.cells #[.int .i64 h] 33)) := (Below.refl _ w).alloc (Nat.le_refl _) _
  have hc1 := hs.c1
  have hsp := hs.lt
  have hfr := hs.f1 1
  have hlen := hs.len
  have hrm := hs.rm
  have hfl : (L.filter (fun q => !ofH h q)).length ≤ L.length := List.length_filter_le _ _
  have HFL : Hid _ := hfl
  have HS : Hid _ := hs
  rcases hs.own.2 with ⟨e, h0⟩ | ⟨g, cap, cur, e, hb, hg, h1, h2, h3, h4⟩
  · have hL : L = [] := List.eq_nil_of_length_eq_zero h0
    subst hL
    subst e
    clear hs hfl
    have hN := deletefunc_nil (.func (.func 26) #[] #[.pointer (some ⟨w.heap.size, 0, none⟩)]) (w.alloc (.cells #[.int .i64 h] 33))
    have HN : Hid _ := hN
    clear hN
    go_enter Try.func12, Try.ntmps12
    go_wp2_with (fail)
    refine Calls.mono HN.out ?_
    rintro e W ⟨rfl, hW⟩
    have hBW : Below w.heap.size w W := by rw [hW]; exact hB0
    have q1 := (HS.out.below hBW).c1
    have q2 := (HS.out.below hBW).f1 1
    clear hW HN
    go_wp2_with (fail)
    go_ret
    refine ⟨rfl, .slice none 0 0, ?_, (Ch.of_below hBW _ _).store _ _, rfl⟩
    exact set_store (HS.out.below hBW).obj _ (World.ownsRow_nil _ _ _ _) (by simp) hrm List.Pairwise.nil
  · subst e
    have hS0 := hs.below hB0
    have hbx : Boxed (w.alloc (.cells #[.int .i64 h] 33)) w.heap.size 33 (.int .i64 h) := Boxed.new w _ _
    have HD : Hid (Calls Try.prog 25 #[.slice (some ⟨g, 0, none⟩) L.length cap, .func (.func 26) #[] #[.pointer (some ⟨w.heap.size, 0, none⟩)]] (w.alloc (.cells #[.int .i64 h] 33)) fun e W => e = .returned (.slice (some ⟨g, 0, none⟩) (L.filter (fun q => !ofH h q)).length cap) ∧ Hid (W.ownsRow base 35 2 (.slice (some ⟨g, 0, none⟩) (L.filter (fun q => !ofH h q)).length cap) (L.filter (fun q => !ofH h q)).length (flat (L.filter (fun q => !ofH h q)))) ∧ Hid ((w.alloc (.cells #[.int .i64 h] 33)).grownBy W (some g)) ∧ W.cell? ⟨sp, 1, none⟩ = some (.slice (some ⟨g, 0, none⟩) L.length cap) ∧ W.frozen? ⟨sp, 1, none⟩ = false ∧ Hid (W.heap[sp]? = some (.cells #[.int .i64 (room : Int), .slice (some ⟨g, 0, none⟩) L.length cap] 52 (0, 0)))) := by
      refine (deletefunc_any base g cap w.heap.size h L _ hS0.own hbx (by omega)).mono ?_
      rintro e W ⟨rfl, a, b⟩
      have hob : W.heap[sp]? = some (.cells #[.int .i64 (room : Int), .slice (some ⟨g, 0, none⟩) L.length cap] 52 (0, 0)) := by
        refine (b.block sp hS0.lt (fun e => ?_)).trans hS0.obj
        have : sp = g := by simpa using e
        subst this
        rw [hs.obj] at hg
        simp at hg
      exact ⟨rfl, a, b, by simp [World.cell?, hob], by simp [World.frozen?, hob], hob⟩
    clear hs hS0 hbx hfl hg h3 h4 h2
    have hnn : ((L.filter (fun q => !ofH h q)).length : Int) ≤ (L.length : Int) := by have := HFL.out; omega
    generalize hfn : (L.filter (fun q => !ofH h q)).length = fn at *
    have HFN : Hid _ := hfn
    clear hfn
    go_enter Try.func12, Try.ntmps12
    go_wp2_with (fail)
    refine Calls.mono HD.out ?_
    rintro e W ⟨rfl, ho, hgr, q1, q2, q3⟩
    clear HD
    go_wp2_with (fail)
    go_ret
    refine ⟨rfl, _, set_store q3.out _ (by rw [HFN.out]; exact ho.out) (by rw [HFN.out]; omega) hrm (HS.out.sorted.filter _), ((Ch.of_below hB0 sp _).trans (Ch.of_grown hgr.out sp)).store _ _, rfl⟩

/-- Two lists, held against one another. -/
structure Lies (W : World) (v : Value) (L : List Pr) : Prop where
  form : ∃ o cap, v = .slice o L.length cap ∧ L.length ≤ cap ∧ cap ≤ 9223372036854775807 ∧ ∀ i, i < L.length → ∃ g off, o = some ⟨g, off, none⟩ ∧ W.cell? ⟨g, off + i * 2, none⟩ = some (.int .i64 (pt L i).a) ∧ W.cell? ⟨g, off + i * 2 + 1, none⟩ = some (.int .i64 (pt L i).b)
theorem Lies.of_row {W : World} {base : Nat} {v : Value} {L : List Pr} (h : W.ownsRow base 35 2 v L.length (flat L)) : Lies W v L := by
  refine ⟨?_⟩
  rcases h.2 with ⟨rfl, h0⟩ | ⟨g, cap, cur, rfl, hb, hg, h1, h2, h3, h4⟩
  · exact ⟨none, 0, by rw [h0], by omega, by omega, fun i hi => by omega⟩
  · refine ⟨_, cap, rfl, h1, by unfold maxLen at h2; omega, fun i hi => ⟨g, 0, rfl, ?_, ?_⟩⟩
    · rw [Nat.zero_add]; exact (h.cellAt (i * 2) (by omega)).trans (flat_at0 L i hi)
    · rw [Nat.zero_add]; exact (h.cellAt (i * 2 + 1) (by omega)).trans (flat_at1 L i hi)
theorem Lies.below {w W : World} {v : Value} {L : List Pr} (h : Lies w v L) (hb : Below w.heap.size w W) : Lies W v L := by
  obtain ⟨o, cap, e, h1, h2, h3⟩ := h.form
  refine ⟨o, cap, e, h1, h2, fun i hi => ?_⟩
  obtain ⟨g, off, e, a, b⟩ := h3 i hi
  exact ⟨g, off, e, (hb.cell (World.block_lt_of_cell? _ _ a)).trans a, (hb.cell (World.block_lt_of_cell? _ _ b)).trans b⟩

theorem list_same {L M : List Pr} (hl : L.length = M.length) (h : ∀ i, i < L.length → pt L i = pt M i) : L = M := by
  apply List.ext_getElem hl
  intro i h1 h2
  have := h i h1
  unfold pt at this
  rw [List.getElem?_eq_getElem h1, List.getElem?_eq_getElem h2] at this
  exact this

set_option maxHeartbeats 4000000 in
set_option maxRecDepth 100000 in
theorem same_any (v u : Value) (L M : List Pr) (w : World) (hv : Lies w v L) (hu : Lies w u M) :
    Calls Try.prog 20 #[v, u] w fun e W => e = .returned (.bool (decide (L = M))) ∧ Below w.heap.size w W := by
  obtain ⟨o, c, rfl, hlc, hcm, hcell⟩ := hv.form
  obtain ⟨o', c', rfl, hlc', hcm', hcell'⟩ := hu.form
  have HC : Hid _ := hcell
  have HC' : Hid _ := hcell'
  clear hv hu hcell hcell'
  by_cases hl : L.length = M.length
  · rw [← hl] at hlc' ⊢
    have HLL : Hid (L.length = M.length) := hl
    clear hl
    go_enter Try.func20, Try.ntmps20
    go_wp2_with (fail)
    go_loopw [5] (fun i wr => ∃ k : Nat, i = .int .i64 (k : Int) ∧ k ≤ L.length ∧ Hid (∀ j, j < k → pt L j = pt M j) ∧ Hid (Below w.heap.size w wr)) (fun i _ => L.length - (intOf i).toNat)
    case atStart => exact ⟨0, rfl, Nat.zero_le _, fun j hj => absurd hj (by omega), Below.refl _ w⟩
    case round =>
      obtain ⟨k, rfl, hk, HN, HB⟩ := hrel
      by_cases hlt : k < L.length
      · obtain ⟨g, off, rfl, x0, x1⟩ := HC.out k hlt
        obtain ⟨g', off', rfl, y0, y1⟩ := HC'.out k (by rw [← HLL.out]; exact hlt)
        have x0 := (HB.out.cell (World.block_lt_of_cell? _ _ x0)).trans x0
        have x1 := (HB.out.cell (World.block_lt_of_cell? _ _ x1)).trans x1
        have y0 := (HB.out.cell (World.block_lt_of_cell? _ _ y0)).trans y0
        have y1 := (HB.out.cell (World.block_lt_of_cell? _ _ y1)).trans y1
        have HNE : Hid (pt L k ≠ pt M k → decide (L = M) = false) := fun hne => decide_eq_false (fun e => hne (by rw [e]))
        have HEQ : Hid (pt L k = pt M k → ∀ j, j < k + 1 → pt L j = pt M j) := fun e j hj => by
          by_cases ej : j = k
          · subst ej; exact e
          · exact HN.out j (by omega)
        have hpe : pt L k = pt M k ↔ (pt L k).a = (pt M k).a ∧ (pt L k).b = (pt M k).b := by
          generalize pt L k = x; generalize pt M k = y
          cases x; cases y; simp
        rw [hpe] at HEQ
        rw [Ne, hpe] at HNE
        clear hpe
        generalize (pt L k).a = la at *
        generalize (pt L k).b = lb at *
        generalize (pt M k).a = ma at *
        generalize (pt M k).b = mb at *
        by_cases ea : la = ma
        · subst ea
          by_cases eb : lb = mb
          · subst eb
            go_wp2_with (fail)
            go_quiet (fail)
            go_wp2_with (fail)
            go_roundw
            case rel => exact ⟨k + 1, by go_num, by omega, HEQ.out (by simp), HB.out.trans ⟨rfl, rfl, rfl, Nat.le_refl _, fun _ _ => rfl⟩⟩
            case measure => simp [intOf]; omega
          · have eb' : (lb == mb) = false := beq_eq_false_iff_ne.2 eb
            go_wp2_with (fail)
            go_quiet (fail)
            go_wp2_with (fail)
            go_ret
            exact ⟨by rw [HNE.out (fun h => eb h.2)]; rfl, HB.out.trans ⟨rfl, rfl, rfl, Nat.le_refl _, fun _ _ => rfl⟩⟩
        · have ea' : (la == ma) = false := beq_eq_false_iff_ne.2 ea
          go_wp2_with (fail)
          go_quiet (fail)
          go_wp2_with (fail)
          go_ret
          exact ⟨by rw [HNE.out (fun h => ea h.1)]; rfl, HB.out.trans ⟨rfl, rfl, rfl, Nat.le_refl _, fun _ _ => rfl⟩⟩
      · obtain rfl : k = L.length := by omega
        go_wp2_with (fail)
        go_ret
        exact ⟨by rw [decide_eq_true (list_same HLL.out HN.out)]; rfl, HB.out⟩
  · have hne : decide (L = M) = false := decide_eq_false (fun e => hl (by rw [e]))
    rw [hne]
    have hl' : ((L.length : Int) == (M.length : Int)) = false := beq_eq_false_iff_ne.2 (by omega)
    have hl2 : ((L.length : Int) != (M.length : Int)) = true := bne_iff_ne.2 (by omega)
    clear hne
    go_enter Try.func20, Try.ntmps20
    go_wp2_with (fail)
    go_ret
    exact ⟨rfl, Below.refl _ _⟩
end Go.Proofs.Ytdfgimfihejjhaa
