/- Put and Drop of a set. -/
import Derived.Test.YtbbmjfaflcbimaaPairD
namespace Go.Proofs.Ytbbmjfaflcbimaa
open Go.RowKit Go.Shelf
set_option linter.unusedVariables false

/-- All blocks stay but a set's own two. -/
structure Ch (w W : World) (sp : Nat) (row : Option Nat) : Prop where
  os : W.os = w.os
  tape : W.tape = w.tape
  output : W.output = w.output
  size : w.heap.size ≤ W.heap.size
  block : ∀ k, k < w.heap.size → k ≠ sp → some k ≠ row → W.heap[k]? = w.heap[k]?
theorem Ch.of_below {w W : World} (h : Below w.heap.size w W) (sp : Nat) (row : Option Nat) : Ch w W sp row := ⟨h.os, h.tape, h.output, h.size, fun k hk _ _ => h.block k hk⟩
theorem Ch.of_grown {w W : World} {row : Option Nat} (h : w.grownBy W row) (sp : Nat) : Ch w W sp row := ⟨h.os, h.tape, h.output, h.size, fun k hk _ hr => h.block k hk hr⟩
theorem Ch.trans {a b c : World} {sp : Nat} {row : Option Nat} (h : Ch a b sp row) (k : Ch b c sp row) : Ch a c sp row := ⟨k.os.trans h.os, k.tape.trans h.tape, k.output.trans h.output, Nat.le_trans h.size k.size, fun i hi h1 h2 => (k.block i (Nat.lt_of_lt_of_le hi h.size) h1 h2).trans (h.block i hi h1 h2)⟩
theorem Ch.store {a b : World} {sp : Nat} {row : Option Nat} (h : Ch a b sp row) (o : Nat) (u : Value) : Ch a (b.setCell ⟨sp, o, none⟩ u) sp row := ⟨h.os, h.tape, h.output, by simpa [World.setCell] using h.size, fun i hi h1 h2 => (Below.heap_setCell _ _ _ i h1).trans (h.block i hi h1 h2)⟩
theorem Ch.below {n : Nat} {w a b : World} {sp : Nat} {row : Option Nat} (h : Below n w a) (hn : n ≤ a.heap.size) (hs : n ≤ sp) (hr : ∀ k, row = some k → n ≤ k) (k : Ch a b sp row) : Below n w b :=
  ⟨k.os.trans h.os, k.tape.trans h.tape, k.output.trans h.output, Nat.le_trans h.size k.size, fun i hi => (k.block i (Nat.lt_of_lt_of_le hi hn) (by omega) (fun e => by have := hr i e.symm; omega)).trans (h.block i hi)⟩
/-- Another set stays. -/
theorem IsSet.ch {w W : World} {sp base : Nat} {v : Value} {room : Nat} {L : List Pr} {sq : Nat} {row : Option Nat} (h : IsSet w sp base v room L) (hg : Ch w W sq row) (h1 : sp ≠ sq) (h2 : some sp ≠ row) (h3 : v.ownBlock ≠ some sq) (h4 : v.ownBlock = none ∨ v.ownBlock ≠ row) : IsSet W sp base v room L := by
  refine ⟨(hg.block sp h.lt h1 h2).trans h.obj, ?_, h.len, h.rm, h.sorted⟩
  have ho := h.own
  cases e : v.ownBlock with
  | none =>
    refine ⟨ho.1, ?_⟩
    rcases ho.2 with a | ⟨g, cap, cur, rfl, _⟩
    · exact Or.inl a
    · cases e
  | some k =>
    have hk := ho.lt k e
    refine ⟨ho.1, ?_⟩
    rcases ho.2 with a | ⟨g, cap, cur, rfl, a1, a2, a3⟩
    · exact Or.inl a
    · have e' : g = k := by simpa [Value.ownBlock] using e
      subst e'
      refine Or.inr ⟨g, cap, cur, rfl, a1, (hg.block g hk.2 (fun x => h3 (by rw [e, x])) (fun x => ?_)).trans a2, a3⟩
      rcases h4 with h4 | h4
      · rw [h4] at e; cases e
      · exact h4 (by rw [e]; exact x)

/-- A set whose slice is stored anew. -/
theorem set_store {W : World} {sp base : Nat} {room : Nat} {L : List Pr} {x : Value} (ho : W.heap[sp]? = some (.cells #[.int .i64 (room : Int), x] 73 (0, 0))) (v : Value) (hv : W.ownsRow base 60 2 v L.length (flat L)) (h1 : L.length ≤ room) (h2 : room ≤ 4096) (h3 : L.Pairwise Pr.Lt) :
    IsSet (W.setCell ⟨sp, 1, none⟩ v) sp base v room L := by
  have hne : v.ownBlock ≠ some sp := fun e => by
    rcases hv.2 with ⟨rfl, _⟩ | ⟨g, cap, cur, rfl, _, hg, _⟩
    · cases e
    · have : g = sp := by simpa [Value.ownBlock] using e
      subst this
      rw [ho] at hg
      simp at hg
  refine ⟨?_, ?_, h1, h2, h3⟩
  · have := heap_setCell_same W sp 1 _ _ v ho
    simpa using this
  · refine hv.kept (row := some sp) ⟨rfl, rfl, rfl, by simp [World.setCell], fun k _ hk => Below.heap_setCell _ _ _ k (fun e => hk (by rw [e]))⟩ (Or.inr hne)

theorem insert_any (base n i vb : Nat) (v : Value) (xs : List Value) (pa pb : Int) (w : World) (hown : w.ownsRow base 60 2 v n xs) (h1 : ∀ u ∈ xs, u.oneCell' = true) (hvb : w.heap[vb]? = some (.cells #[.int .i64 pa, .int .i64 pb] 60 (0, 0))) (hne : v.ownBlock ≠ some vb) (hi : i ≤ n) (hn : n ≤ 4096) (hbase : base ≤ w.heap.size) :
    Calls Try.prog 32 #[v, .int .i64 (i : Int), .slice (some ⟨vb, 0, none⟩) 1 1] w fun e W => ∃ v', e = .returned v' ∧ W.ownsRow base 60 2 v' (n + 1) (xs.take (i * 2) ++ [.int .i64 pa, .int .i64 pb] ++ xs.drop (i * 2)) ∧ w.grownBy W v.ownBlock ∧ (v'.ownBlock = v.ownBlock ∨ v'.ownBlock = some w.heap.size) := by
  have hl := hown.1
  by_cases hin : i = n
  · subst hin
    refine (insert_end base i vb v xs pa pb w hown hvb hn hbase).mono ?_
    rintro e W ⟨v', rfl, a, b, c⟩
    refine ⟨v', rfl, ?_, b, c⟩
    rw [List.take_of_length_le (by omega), List.drop_of_length_le (by omega), List.append_nil]
    exact a
  · rcases hown.2 with ⟨rfl, h0⟩ | ⟨g, cap, cur, rfl, hb, hg, h2, h3, h4, h5⟩
    · omega
    · by_cases hr : n + 1 ≤ cap
      · refine (insert_shift base g n cap i vb xs pa pb w hown h1 hvb (fun e => hne (by simp [Value.ownBlock, e])) (by omega) hr).mono ?_
        rintro e W ⟨rfl, a, b⟩
        exact ⟨_, rfl, a, b, Or.inl rfl⟩
      · refine (insert_grow base g n cap i vb xs pa pb w hown h1 hvb (by omega) (by omega) hn hbase).mono ?_
        rintro e W ⟨G, rfl, a, b⟩
        exact ⟨_, rfl, a, ⟨b.os, b.tape, b.output, b.size, fun k hk _ => b.block k hk (by simp)⟩, Or.inr rfl⟩
theorem row_form {w : World} {base e size n : Nat} {v : Value} {xs : List Value} (h : w.ownsRow base e size v n xs) : ∃ o c, v = .slice o n c := by
  rcases h.2 with ⟨e, h0⟩ | ⟨g, cap, cur, e, _⟩
  · exact ⟨none, 0, by rw [e, h0]⟩
  · exact ⟨_, cap, e⟩
theorem flat_ins {L : List Pr} {p : Pr} {k : Nat} (h : Splits L p k) : (flat L).take (k * 2) ++ [.int .i64 p.a, .int .i64 p.b] ++ (flat L).drop (k * 2) = flat (ins p L) := by
  rw [← splits_ins h, flat_append, flat_append, flat_take, flat_drop]
  rfl

/-- What Put does to the list, and what it answers. -/
def putL (room : Nat) (L : List Pr) (p : Pr) : List Pr := if p.a < p.b ∧ p ∉ L ∧ L.length < room then ins p L else L
def putE (room : Nat) (L : List Pr) (p : Pr) : Int := if p.a < p.b then (if p ∈ L then 0 else if L.length < room then 0 else 40) else 1
def putN (room : Nat) (L : List Pr) (p : Pr) : Bool := decide (p.a < p.b ∧ p ∉ L ∧ L.length < room)

set_option maxHeartbeats 4000000 in
set_option maxRecDepth 100000 in
theorem put_any (sp base : Nat) (v : Value) (room : Nat) (L : List Pr) (p : Pr) (w : World) (hs : IsSet w sp base v room L) (hbase : base ≤ w.heap.size) :
    Calls Try.prog 22 #[.pointer (some ⟨sp, 0, none⟩), p.v] w fun e W => e = .returned (.tuple #[.bool (putN room L p), .int .i64 (putE room L p)]) ∧ ∃ v', IsSet W sp base v' room (putL room L p) ∧ Ch w W sp v.ownBlock ∧ (v'.ownBlock = v.ownBlock ∨ ∃ g, v'.ownBlock = some g ∧ w.heap.size ≤ g) := by
  obtain ⟨pa, pb⟩ := p
  have hB0 : Below w.heap.size w (w.alloc (.cells #[.int .i64 pa, .int .i64 pb] 60)) := (Below.refl _ w).alloc (Nat.le_refl _) _
  have HM : Hid (∀ W : World, Calls Try.prog 30 #[.agg #[.int .i64 pa, .int .i64 pb]] W fun e W' => e = .returned (.bool (decide (pa < pb))) ∧ Below W.heap.size W W') := fun W => mayBe_any ⟨pa, pb⟩ W
  have HF : Hid (∀ W : World, IsSet W sp base v room L → Calls Try.prog 31 #[.pointer (some ⟨sp, 0, none⟩), .agg #[.int .i64 pa, .int .i64 pb]] W fun e W' => ∃ (k : Nat), e = .returned (.tuple #[.int .i64 (k : Int), .bool (decide ((⟨pa, pb⟩ : Pr) ∈ L))]) ∧ Splits L ⟨pa, pb⟩ k ∧ Below W.heap.size W W') := fun W hW => (find_any sp base v room L ⟨pa, pb⟩ W hW).mono (by
    rintro e W' ⟨k, rfl, hsp, hb⟩
    exact ⟨k, by rw [show decide (k < L.length ∧ pt L k = ⟨pa, pb⟩) = decide ((⟨pa, pb⟩ : Pr) ∈ L) from decide_eq_decide.2 (splits_mem hsp hs.sorted)], hsp, hb⟩)
  have HS : Hid _ := hs
  unfold Pr.v
  by_cases hab : pa < pb
  · by_cases hin : (⟨pa, pb⟩ : Pr) ∈ L
    · have e1 : putL room L ⟨pa, pb⟩ = L := by unfold putL; rw [if_neg (fun h => h.2.1 hin)]
      have e2 : putE room L ⟨pa, pb⟩ = 0 := by unfold putE; rw [if_pos hab, if_pos hin]
      have e3 : putN room L ⟨pa, pb⟩ = false := by unfold putN; exact decide_eq_false (fun h => h.2.1 hin)
      rw [e1, e2, e3]
      have HI : Hid (decide ((⟨pa, pb⟩ : Pr) ∈ L) = true) := decide_eq_true hin
      clear hs e1 e2 e3
      go_enter Try.func22, Try.ntmps22
      go_wp2_with (fail)
      refine (HM.out _).mono ?_
      rintro e W1 ⟨rfl, hb1⟩
      have hB1 := hB0.trans (hb1.mono hB0.size)
      have hc0 : W1.cell? ⟨w.heap.size, 0, none⟩ = some (.int .i64 pa) := (hb1.cell (by simp)).trans (by simp [go_sem])
      have hc1 : W1.cell? ⟨w.heap.size, 1, none⟩ = some (.int .i64 pb) := (hb1.cell (by simp)).trans (by simp [go_sem])
      rw [decide_eq_true hab]
      go_wp2_with (fail)
      refine (HF.out W1 (HS.out.below hB1)).mono ?_
      rintro e W2 ⟨k, rfl, hsp, hb2⟩
      rw [HI.out]
      have HSP : Hid _ := hsp
      clear hsp
      go_wp2_with (fail)
      go_ret2
      have hB2 := hB1.trans (hb2.mono hB1.size)
      exact ⟨rfl, v, HS.out.below hB2, Ch.of_below hB2 _ _, Or.inl rfl⟩
    · have HI : Hid (decide ((⟨pa, pb⟩ : Pr) ∈ L) = false) := decide_eq_false hin
      obtain ⟨o, cap, hv⟩ := set_len hs
      have c0 := hs.c0
      have c1 := hs.c1
      have hsp := hs.lt
      have hln := hs.len
      have hrm := hs.rm
      rw [hv] at c1
      have HV : Hid _ := hv
      have HN : Hid _ := hin
      have HAB : Hid _ := hab
      by_cases hfull : L.length < room
      · have e1 : putL room L ⟨pa, pb⟩ = ins ⟨pa, pb⟩ L := by unfold putL; rw [if_pos ⟨hab, hin, hfull⟩]
        have e2 : putE room L ⟨pa, pb⟩ = 0 := by unfold putE; rw [if_pos hab, if_neg hin, if_pos hfull]
        have e3 : putN room L ⟨pa, pb⟩ = true := by unfold putN; exact decide_eq_true ⟨hab, hin, hfull⟩
        rw [e1, e2, e3]
        clear hs e1 e2 e3 hv hin
        go_enter Try.func22, Try.ntmps22
        go_wp2_with (fail)
        refine (HM.out _).mono ?_
        rintro e W1 ⟨rfl, hb1⟩
        have hB1 := hB0.trans (hb1.mono hB0.size)
        have hc0 : W1.cell? ⟨w.heap.size, 0, none⟩ = some (.int .i64 pa) := (hb1.cell (by simp)).trans (by simp [go_sem])
        have hc1 : W1.cell? ⟨w.heap.size, 1, none⟩ = some (.int .i64 pb) := (hb1.cell (by simp)).trans (by simp [go_sem])
        have hz1 : w.heap.size < W1.heap.size := Nat.lt_of_lt_of_le (by simp) hb1.size
        rw [decide_eq_true hab]
        clear hb1
        go_wp2_with (fail)
        refine (HF.out W1 (HS.out.below hB1)).mono ?_
        rintro e W2 ⟨k, rfl, hsp2, hb2⟩
        rw [HI.out]
        have HSP : Hid _ := hsp2
        have hB2 := hB1.trans (hb2.mono hB1.size)
        have d0 : W2.cell? ⟨w.heap.size, 0, none⟩ = some (.int .i64 pa) := (hb2.cell hz1).trans hc0
        have d1 : W2.cell? ⟨w.heap.size, 1, none⟩ = some (.int .i64 pb) := (hb2.cell hz1).trans hc1
        have s0 : W2.cell? ⟨sp, 0, none⟩ = some (.int .i64 (room : Int)) := (hB2.cell hsp).trans c0
        have s1 : W2.cell? ⟨sp, 1, none⟩ = some (.slice o L.length cap) := (hB2.cell hsp).trans c1
        have hz2 : sp < W2.heap.size := Nat.lt_of_lt_of_le hsp hB2.size
        have hz3 : w.heap.size < W2.heap.size := Nat.lt_of_lt_of_le hz1 hb2.size
        clear hsp2 hb2 hB1 hc0 hc1 hz1 c0 c1
        have hfi : ¬ (room : Int) ≤ (L.length : Int) := by omega
        have hS2 := HS.out.below hB2
        have hbw : base ≤ W2.heap.size := Nat.le_trans hbase hB2.size
        have HINS : Hid (∀ W : World, W.heap = (W2.alloc (.cells #[.int .i64 pa, .int .i64 pb] 60)).heap → Calls Try.prog 32 #[.slice o L.length cap, .int .i64 (k : Int), .slice (some ⟨W2.heap.size, 0, none⟩) 1 1] W fun e W' => ∃ o' c', e = .returned (.slice o' (L.length + 1) c') ∧ W'.ownsRow base 60 2 (.slice o' (L.length + 1) c') (ins ⟨pa, pb⟩ L).length (flat (ins ⟨pa, pb⟩ L)) ∧ W.grownBy W' v.ownBlock ∧ ((Value.slice o' (L.length + 1) c').ownBlock = v.ownBlock ∨ (Value.slice o' (L.length + 1) c').ownBlock = some W.heap.size)) := fun W hW => by
          have hown : W.ownsRow base 60 2 (.slice o L.length cap) L.length (flat L) := by
            have a := hS2.own.alloc (.cells #[.int .i64 pa, .int .i64 pb] 60)
            rw [HV.out] at a
            refine ⟨a.1, ?_⟩
            rw [hW]
            exact a.2
          have hvb : W.heap[W2.heap.size]? = some (.cells #[.int .i64 pa, .int .i64 pb] 60 (0, 0)) := by rw [hW]; exact heap_alloc_new W2 _
          have hne : (Value.slice o L.length cap).ownBlock ≠ some W2.heap.size := fun e => by
            have := (hS2.own.lt W2.heap.size (by rw [HV.out]; exact e)).2
            omega
          refine (insert_any base L.length k W2.heap.size _ (flat L) pa pb W hown (flat_one L) hvb hne HSP.out.1 (by omega) (by rw [hW]; show base ≤ (W2.alloc _).heap.size; simp; omega)).mono ?_
          rintro e W' ⟨v', rfl, a, b, c⟩
          rw [flat_ins (p := ⟨pa, pb⟩) HSP.out] at a
          obtain ⟨o', c', rfl⟩ := row_form a
          rw [HV.out]
          exact ⟨o', c', rfl, by rw [ins_length]; exact a, b, c⟩
        have HST : Hid (∀ W W3 : World, W.grownBy W3 v.ownBlock → W.heap = (W2.alloc (.cells #[.int .i64 pa, .int .i64 pb] 60)).heap → W3.cell? ⟨sp, 1, none⟩ = some v ∧ W3.frozen? ⟨sp, 1, none⟩ = false ∧ Hid (W3.heap[sp]? = some (.cells #[.int .i64 (room : Int), v] 73 (0, 0)))) := fun W W3 hg hW => by
          have hob : W3.heap[sp]? = some (.cells #[.int .i64 (room : Int), v] 73 (0, 0)) := ?_
          · exact ⟨by simp [World.cell?, hob], by simp [World.frozen?, hob], hob⟩
          refine (hg.block sp (by rw [hW]; show sp < (W2.alloc _).heap.size; simp; omega) (fun e => ?_)).trans ?_
          · have hb := hS2.own.2
            rcases hb with ⟨h, _⟩ | ⟨g, c, cur, h, _, hh, _⟩
            · rw [h] at e; cases e
            · rw [h] at e
              have : sp = g := by simpa [Value.ownBlock] using e
              subst this
              rw [hS2.obj] at hh
              simp at hh
          · rw [hW, heap_alloc_old _ _ _ hz2]; exact hS2.obj
        clear hS2
        go_wp2_with (fail)
        go_region
        go_wp2_with (fail)
        go_region_with (go_at_call 32; refine Calls.mono (HINS.out _ rfl) ?_; rintro e W3 ⟨o', c', rfl, hown3, hgr3, hat3⟩; obtain ⟨q1, q2, q3⟩ := HST.out _ W3 hgr3 rfl)
        all_goals go_wp2
        all_goals go_ret2
        all_goals refine ⟨rfl, _, set_store q3.out _ hown3 (by rw [ins_length]; omega) hrm (ins_sorted HS.out.sorted HN.out), ((Ch.of_below hB2 sp _).trans ((Ch.of_below (((Below.refl _ W2).alloc (Nat.le_refl _) _).drew.drew) sp _).trans (Ch.of_grown hgr3 sp))).store _ _, ?_⟩
        all_goals exact hat3.imp id (fun e => ⟨_, e, by have := hB2.size; show w.heap.size ≤ (W2.alloc _).heap.size; simp; omega⟩)
      · have e1 : putL room L ⟨pa, pb⟩ = L := by unfold putL; rw [if_neg (fun h => hfull h.2.2)]
        have e2 : putE room L ⟨pa, pb⟩ = 40 := by unfold putE; rw [if_pos hab, if_neg hin, if_neg hfull]
        have e3 : putN room L ⟨pa, pb⟩ = false := by unfold putN; exact decide_eq_false (fun h => hfull h.2.2)
        rw [e1, e2, e3]
        clear hs e1 e2 e3 hv hin
        go_enter Try.func22, Try.ntmps22
        go_wp2_with (fail)
        refine (HM.out _).mono ?_
        rintro e W1 ⟨rfl, hb1⟩
        have hB1 := hB0.trans (hb1.mono hB0.size)
        have hc0 : W1.cell? ⟨w.heap.size, 0, none⟩ = some (.int .i64 pa) := (hb1.cell (by simp)).trans (by simp [go_sem])
        have hc1 : W1.cell? ⟨w.heap.size, 1, none⟩ = some (.int .i64 pb) := (hb1.cell (by simp)).trans (by simp [go_sem])
        rw [decide_eq_true hab]
        clear hb1
        go_wp2_with (fail)
        refine (HF.out W1 (HS.out.below hB1)).mono ?_
        rintro e W2 ⟨k, rfl, hsp2, hb2⟩
        rw [HI.out]
        have HSP : Hid _ := hsp2
        have hB2 := hB1.trans (hb2.mono hB1.size)
        have s0 : W2.cell? ⟨sp, 0, none⟩ = some (.int .i64 (room : Int)) := (hB2.cell hsp).trans c0
        have s1 : W2.cell? ⟨sp, 1, none⟩ = some (.slice o L.length cap) := (hB2.cell hsp).trans c1
        clear hsp2 hb2 hB1 hc0 hc1 c0 c1
        have hfi : (room : Int) ≤ (L.length : Int) := by omega
        go_wp2_with (fail)
        go_region
        go_wp2_with (fail)
        go_ret2
        exact ⟨rfl, v, (HS.out.below hB2).below ((Below.refl _ _).drew), Ch.of_below hB2.drew _ _, Or.inl rfl⟩
  · have e1 : putL room L ⟨pa, pb⟩ = L := by unfold putL; rw [if_neg (fun h => hab h.1)]
    have e2 : putE room L ⟨pa, pb⟩ = 1 := by unfold putE; rw [if_neg hab]
    have e3 : putN room L ⟨pa, pb⟩ = false := by unfold putN; exact decide_eq_false (fun h => hab h.1)
    rw [e1, e2, e3]
    clear hs e1 e2 e3
    go_enter Try.func22, Try.ntmps22
    go_wp2_with (fail)
    refine (HM.out _).mono ?_
    rintro e W1 ⟨rfl, hb1⟩
    have hB1 := hB0.trans (hb1.mono hB0.size)
    rw [decide_eq_false (p := pa < pb) (by omega)]
    go_wp2_with (fail)
    go_ret2
    exact ⟨rfl, v, HS.out.below hB1, Ch.of_below hB1 _ _, Or.inl rfl⟩

theorem splits_drop {L : List Pr} {p : Pr} {k : Nat} (h : Splits L p k) (hs : L.Pairwise Pr.Lt) (hk : k < L.length) (e : pt L k = p) : L.take k ++ L.drop (k + 1) = L.filter (fun q => decide (q ≠ p)) := by
  have ek : L[k] = p := by unfold pt at e; rw [List.getElem?_eq_getElem hk] at e; exact e
  have hne : ∀ (i : Nat) (hi : i < L.length), i ≠ k → L[i] ≠ p := fun i hi hik hx => by
    have h1 : (pt L i) = p := by unfold pt; rw [List.getElem?_eq_getElem hi]; exact hx
    rcases Nat.lt_or_gt_of_ne hik with hl | hl
    · have := pt_lt hs hl hk; rw [h1, e] at this; exact Lt.irrefl p this
    · have := pt_lt hs hl hi; rw [h1, e] at this; exact Lt.irrefl p this
  have e0 : L = L.take k ++ L[k] :: L.drop (k + 1) := by rw [← List.drop_eq_getElem_cons hk, List.take_append_drop]
  have f1 : (L.take k).filter (fun q => decide (q ≠ p)) = L.take k := List.filter_eq_self.2 fun q hq => by
    obtain ⟨i, hi, rfl⟩ := List.mem_iff_getElem.1 hq
    simp only [List.length_take] at hi
    rw [List.getElem_take]
    exact decide_eq_true (hne i (by omega) (by omega))
  have f2 : (L.drop (k + 1)).filter (fun q => decide (q ≠ p)) = L.drop (k + 1) := List.filter_eq_self.2 fun q hq => by
    obtain ⟨i, hi, rfl⟩ := List.mem_iff_getElem.1 hq
    simp only [List.length_drop] at hi
    rw [List.getElem_drop]
    exact decide_eq_true (hne _ (by omega) (by omega))
  conv => rhs; rw [e0]
  rw [List.filter_append, List.filter_cons, f1, f2, if_neg (by simp [ek])]

set_option maxHeartbeats 4000000 in
set_option maxRecDepth 100000 in
theorem drop_any (sp base : Nat) (v : Value) (room : Nat) (L : List Pr) (p : Pr) (w : World) (hs : IsSet w sp base v room L) :
    Calls Try.prog 26 #[.pointer (some ⟨sp, 0, none⟩), p.v] w fun e W => e = .returned (.bool (decide (p ∈ L))) ∧ ∃ v', IsSet W sp base v' room (L.filter (fun q => decide (q ≠ p))) ∧ Ch w W sp v.ownBlock ∧ v'.ownBlock = v.ownBlock := by
  obtain ⟨pa, pb⟩ := p
  have hB0 : Below w.heap.size w (w.alloc (.cells #[.int .i64 pa, .int .i64 pb] 60)) := (Below.refl _ w).alloc (Nat.le_refl _) _
  have HF : Hid _ := fun W hB => find_any sp base v room L ⟨pa, pb⟩ W (hs.below (W := W) hB)
  have HS : Hid _ := hs
  unfold Pr.v
  by_cases hin : (⟨pa, pb⟩ : Pr) ∈ L
  · rw [decide_eq_true hin]
    obtain ⟨i, hi, e⟩ := List.mem_iff_getElem.1 hin
    obtain ⟨g, cap, hv, hlc, hcm, hcell⟩ := set_row hs (k := i) hi
    have c1 := hs.c1
    rw [hv] at c1
    have hsp := hs.lt
    have hln := hs.len
    have hrm := hs.rm
    have HIN : Hid _ := hin
    have HV : Hid _ := hv
    obtain ⟨m, hm⟩ : ∃ m, L.length = m + 1 := ⟨L.length - 1, by omega⟩
    rw [hm] at c1
    clear hs hcell hv hi e hin
    go_enter Try.func26, Try.ntmps26
    go_wp2_with (fail)
    refine (HF.out _ hB0).mono ?_
    rintro e W2 ⟨k, rfl, hsp2, hb2⟩
    have hmem := (splits_mem hsp2 HS.out.sorted).2 HIN.out
    rw [decide_eq_true hmem]
    have hB2 := hB0.trans (hb2.mono hB0.size)
    have hS2 := HS.out.below hB2
    have s1 : W2.cell? ⟨sp, 1, none⟩ = some (.slice (some ⟨g, 0, none⟩) (m + 1) cap) := (hB2.cell hsp).trans c1
    have hkm : k ≤ m := by have := hmem.1; omega
    have HDEL : Hid (Calls Try.prog 39 #[.slice (some ⟨g, 0, none⟩) (m + 1) cap, .int .i64 (k : Int), .int .i64 ((k : Int) + 1)] W2 fun e W3 => e = .returned (.slice (some ⟨g, 0, none⟩) m cap) ∧ W3.ownsRow base 60 2 (.slice (some ⟨g, 0, none⟩) m cap) (L.filter (fun q => decide (q ≠ ⟨pa, pb⟩))).length (flat (L.filter (fun q => decide (q ≠ ⟨pa, pb⟩)))) ∧ W2.grownBy W3 (some g) ∧ W3.cell? ⟨sp, 1, none⟩ = some v ∧ W3.frozen? ⟨sp, 1, none⟩ = false ∧ Hid (W3.heap[sp]? = some (.cells #[.int .i64 (room : Int), v] 73 (0, 0)))) := by
      have ho := hS2.own
      rw [HV.out, hm] at ho
      refine (delete_any base g m cap k (flat L) W2 ho (flat_one L) hkm).mono ?_
      rintro e W3 ⟨rfl, a, b⟩
      rw [flat_take, flat_drop, ← flat_append, splits_drop hsp2 HS.out.sorted hmem.1 hmem.2] at a
      have hl : (L.filter (fun q => decide (q ≠ ⟨pa, pb⟩))).length = m := by
        rw [← splits_drop hsp2 HS.out.sorted hmem.1 hmem.2]
        simp only [List.length_append, List.length_take, List.length_drop]; omega
      have hob : W3.heap[sp]? = some (.cells #[.int .i64 (room : Int), v] 73 (0, 0)) := by
        refine (b.block sp hS2.lt (fun e => ?_)).trans hS2.obj
        obtain ⟨cur, _, hg, _⟩ := owns_cur ho
        have : sp = g := by simpa using e
        subst this
        rw [hS2.obj] at hg
        simp at hg
      exact ⟨rfl, by rw [hl]; exact a, b, by simp [World.cell?, hob], by simp [World.frozen?, hob], hob⟩
    have HL : Hid ((L.filter (fun q => decide (q ≠ ⟨pa, pb⟩))).length ≤ room) := Nat.le_trans (List.length_filter_le _ _) hln
    have hk4 : k ≤ 4096 := by omega
    clear hsp2 hb2 hmem hS2 hm hln
    go_wp2_with (fail)
    refine Calls.mono HDEL.out ?_
    rintro e W3 ⟨rfl, hown3, hgr3, q1, q2, q3⟩
    clear HDEL
    go_wp2
    go_ret
    refine ⟨rfl, _, set_store q3.out _ hown3 HL.out hrm (HS.out.sorted.filter _), ((Ch.of_below hB2 sp _).trans (Ch.of_grown (by rw [HV.out]; exact hgr3) sp)).store _ _, ?_⟩
    rw [HV.out]
    rfl
  · have hfil : L.filter (fun q => decide (q ≠ (⟨pa, pb⟩ : Pr))) = L := List.filter_eq_self.2 fun q hq => by
      by_cases e : q = (⟨pa, pb⟩ : Pr)
      · rw [e] at hq; exact absurd hq hin
      · exact decide_eq_true e
    rw [decide_eq_false hin, hfil]
    have HIN : Hid _ := hin
    clear hs hin
    go_enter Try.func26, Try.ntmps26
    go_wp2_with (fail)
    refine (HF.out _ hB0).mono ?_
    rintro e W2 ⟨k, rfl, hsp2, hb2⟩
    rw [decide_eq_false (fun h => HIN.out ((splits_mem hsp2 HS.out.sorted).1 h))]
    have hB2 := hB0.trans (hb2.mono hB0.size)
    clear hsp2 hb2
    go_wp2_with (fail)
    go_ret
    exact ⟨rfl, v, HS.out.below hB2, Ch.of_below hB2 _ _, rfl⟩
end Go.Proofs.Ytbbmjfaflcbimaa
