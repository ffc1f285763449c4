/- A set of pairs in memory: made, found in. -/
import Derived.Test.YtbbmjfaflcbimaaPairC
import Derived.Deep.RegionWith
import Derived.Deep.QuietTactic
import Derived.BigQuiet
namespace Go.Proofs.Ytbbmjfaflcbimaa
open Go.RowKit Go.Shelf
set_option linter.unusedVariables false

/-- One stands ahead of another one. -/
def Pr.Lt (p q : Pr) : Prop := p.a < q.a ∨ (p.a = q.a ∧ p.b < q.b)
instance (p q : Pr) : Decidable (p.Lt q) := by unfold Pr.Lt; exact inferInstance
theorem Lt.irrefl (p : Pr) : ¬ p.Lt p := by unfold Pr.Lt; omega
theorem Lt.trans {p q r : Pr} (h : p.Lt q) (k : q.Lt r) : p.Lt r := by unfold Pr.Lt at *; omega
theorem Lt.total {p q : Pr} (h : ¬ p.Lt q) (k : ¬ q.Lt p) : p = q := by
  unfold Pr.Lt at *
  cases p; cases q
  simp only [Pr.mk.injEq] at *
  omega
def pt (L : List Pr) (i : Nat) : Pr := L[i]?.getD default
theorem pt_mem {L : List Pr} {i : Nat} (h : i < L.length) : pt L i ∈ L := by unfold pt; rw [List.getElem?_eq_getElem h]; exact List.getElem_mem h
theorem pt_lt {L : List Pr} (hs : L.Pairwise Pr.Lt) {i j : Nat} (hij : i < j) (hj : j < L.length) : (pt L i).Lt (pt L j) := by
  unfold pt
  rw [List.getElem?_eq_getElem hj, List.getElem?_eq_getElem (Nat.lt_trans hij hj)]
  exact List.pairwise_iff_getElem.1 hs i j _ hj hij

structure IsSet (W : World) (sp base : Nat) (v : Value) (room : Nat) (L : List Pr) : Prop where
  obj : W.heap[sp]? = some (.cells #[.int .i64 (room : Int), v] 73 (0, 0))
  own : W.ownsRow base 60 2 v L.length (flat L)
  len : L.length ≤ room
  rm : room ≤ 4096
  sorted : L.Pairwise Pr.Lt
theorem IsSet.c0 {W : World} {sp base : Nat} {v : Value} {room : Nat} {L : List Pr} (h : IsSet W sp base v room L) : W.cell? ⟨sp, 0, none⟩ = some (.int .i64 (room : Int)) := by simp [World.cell?, h.obj]
theorem IsSet.c1 {W : World} {sp base : Nat} {v : Value} {room : Nat} {L : List Pr} (h : IsSet W sp base v room L) : W.cell? ⟨sp, 1, none⟩ = some v := by simp [World.cell?, h.obj]
theorem IsSet.f1 {W : World} {sp base : Nat} {v : Value} {room : Nat} {L : List Pr} (h : IsSet W sp base v room L) (o : Nat) : W.frozen? ⟨sp, o, none⟩ = false := by simp [World.frozen?, h.obj]
theorem IsSet.lt {W : World} {sp base : Nat} {v : Value} {room : Nat} {L : List Pr} (h : IsSet W sp base v room L) : sp < W.heap.size := (Array.getElem?_eq_some_iff.1 h.obj).1
theorem IsSet.grown {w W : World} {sp base : Nat} {v : Value} {room : Nat} {L : List Pr} {row : Option Nat} (h : IsSet w sp base v room L) (hg : w.grownBy W row) (h1 : some sp ≠ row) (h2 : v.ownBlock = none ∨ v.ownBlock ≠ row) : IsSet W sp base v room L :=
  ⟨(hg.block sp h.lt h1).trans h.obj, h.own.kept hg h2, h.len, h.rm, h.sorted⟩
theorem below_grown {w W : World} (h : Below w.heap.size w W) (row : Option Nat) : w.grownBy W row := ⟨h.os, h.tape, h.output, h.size, fun k hk _ => h.block k hk⟩
theorem IsSet.below {w W : World} {sp base : Nat} {v : Value} {room : Nat} {L : List Pr} (h : IsSet w sp base v room L) (hb : Below w.heap.size w W) : IsSet W sp base v room L := by
  refine ⟨(hb.block sp h.lt).trans h.obj, ?_, h.len, h.rm, h.sorted⟩
  cases e : v.ownBlock with
  | none => exact h.own.kept (below_grown hb none) (Or.inl e)
  | some k => exact h.own.kept (below_grown hb none) (Or.inr (by rw [e]; simp))
theorem G.trans {a b c : World} {row : Option Nat} (h : a.grownBy b row) (k : b.grownBy c row) : a.grownBy c row := ⟨k.os.trans h.os, k.tape.trans h.tape, k.output.trans h.output, Nat.le_trans h.size k.size, fun i hi hn => (k.block i (Nat.lt_of_lt_of_le hi h.size) hn).trans (h.block i hi hn)⟩
theorem G.below {a b c : World} {row : Option Nat} (h : a.grownBy b row) (k : Below b.heap.size b c) : a.grownBy c row := G.trans h (below_grown k row)

theorem new_no (room : Int) (w : World) (h : room < 1 ∨ 4096 < room) :
    Calls Try.prog 20 #[.int .i64 room] w fun e w' => e = .returned (.tuple #[.pointer none, .int .i64 1]) ∧ w' = w := by
  rcases h with h | h
  · go_enter Try.func20, Try.ntmps20
    go_wp2
    go_ret2
    exact ⟨rfl, rfl⟩
  · have h' : ¬ room < 1 := by omega
    go_enter Try.func20, Try.ntmps20
    go_wp2
    go_ret2
    exact ⟨rfl, rfl⟩
theorem new_yes (room base : Nat) (w : World) (h1 : 1 ≤ room) (h2 : room ≤ 4096) :
    Calls Try.prog 20 #[.int .i64 (room : Int)] w fun e W => ∃ sp, e = .returned (.tuple #[.pointer (some ⟨sp, 0, none⟩), .int .i64 0]) ∧ w.heap.size ≤ sp ∧ IsSet W sp base (.slice none 0 0) room [] ∧ Below w.heap.size w W := by
  have h3 : ¬ (room : Int) < 1 := by omega
  have h4 : ¬ 4096 < (room : Int) := by omega
  go_enter Try.func20, Try.ntmps20
  go_wp2
  go_ret2
  exact ⟨_, rfl, Nat.le_refl _, ⟨heap_alloc_new w _, World.ownsRow_nil _ _ _ _, by simp, h2, List.Pairwise.nil⟩, (Below.refl _ w).alloc (Nat.le_refl _) _⟩

theorem ahead_any (p q : Pr) (w : World) : Calls Try.prog 42 #[p.v, q.v] w fun e W => e = .returned (.bool (decide (p.Lt q))) ∧ Below w.heap.size w W := by
  obtain ⟨pa, pb⟩ := p
  obtain ⟨qa, qb⟩ := q
  have hB : Below w.heap.size w ((w.alloc (.cells #[.int .i64 pa, .int .i64 pb] 60)).alloc (.cells #[.int .i64 qa, .int .i64 qb] 60)) := ((Below.refl _ w).alloc (Nat.le_refl _) _).alloc (by simp) _
  unfold Pr.v Pr.Lt
  by_cases h : pa = qa
  · subst h
    go_enter Try.func42, Try.ntmps42
    go_wp2
    go_ret
    exact ⟨by simp, hB⟩
  · go_enter Try.func42, Try.ntmps42
    go_wp2
    go_ret
    exact ⟨by simp [h], hB⟩
theorem mayBe_any (p : Pr) (w : World) : Calls Try.prog 30 #[p.v] w fun e W => e = .returned (.bool (decide (p.a < p.b))) ∧ Below w.heap.size w W := by
  obtain ⟨pa, pb⟩ := p
  unfold Pr.v
  go_enter Try.func30, Try.ntmps30
  go_wp2
  go_ret
  exact ⟨rfl, (Below.refl _ w).alloc (Nat.le_refl _) _⟩
/-- How many stand ahead of p. -/
def Splits (L : List Pr) (p : Pr) (k : Nat) : Prop := k ≤ L.length ∧ (∀ j, j < k → (pt L j).Lt p) ∧ (∀ j, k ≤ j → j < L.length → ¬ (pt L j).Lt p)

theorem set_row {W : World} {sp base : Nat} {v : Value} {room : Nat} {L : List Pr} (h : IsSet W sp base v room L) {k : Nat} (hk : k < L.length) :
    ∃ g cap, v = .slice (some ⟨g, 0, none⟩) L.length cap ∧ L.length ≤ cap ∧ cap ≤ 9223372036854775807 ∧ ∀ i, i < L.length → W.cell? ⟨g, i * 2, none⟩ = some (.int .i64 (pt L i).a) ∧ W.cell? ⟨g, i * 2 + 1, none⟩ = some (.int .i64 (pt L i).b) := by
  rcases h.own.2 with ⟨e, h0⟩ | ⟨g, cap, cur, e, hb, hg, h1, h2, h3, h4⟩
  · omega
  · subst e
    have ho := h.own
    refine ⟨g, cap, rfl, h1, by unfold maxLen at h2; omega, fun i hi => ⟨?_, ?_⟩⟩
    · exact (ho.cellAt (i * 2) (by omega)).trans (flat_at0 L i hi)
    · exact (ho.cellAt (i * 2 + 1) (by omega)).trans (flat_at1 L i hi)
theorem set_len {W : World} {sp base : Nat} {v : Value} {room : Nat} {L : List Pr} (h : IsSet W sp base v room L) : ∃ o cap, v = .slice o L.length cap := by
  rcases h.own.2 with ⟨e, h0⟩ | ⟨g, cap, cur, e, hb, hg, h1, h2, h3, h4⟩
  · exact ⟨none, 0, by rw [e, h0]⟩
  · exact ⟨_, cap, e⟩

theorem find_next {n0 : Nat} {w wr W' : World} {x y : Value} (HB : Below n0 w wr) (hn : n0 < wr.heap.size) (b0 : wr.cell? ⟨n0, 0, none⟩ = some x) (b1 : wr.cell? ⟨n0, 1, none⟩ = some y) (hBW : Below wr.heap.size wr.drew W') :
    Below n0 w W' ∧ n0 < W'.heap.size ∧ W'.cell? ⟨n0, 0, none⟩ = some x ∧ W'.cell? ⟨n0, 1, none⟩ = some y :=
  ⟨HB.drew.trans (hBW.mono (Nat.le_of_lt hn)), Nat.lt_of_lt_of_le hn hBW.size, (hBW.cell hn).trans b0, (hBW.cell hn).trans b1⟩

set_option maxHeartbeats 4000000 in
set_option maxRecDepth 100000 in
theorem find_any (sp base : Nat) (v : Value) (room : Nat) (L : List Pr) (p : Pr) (w : World) (hs : IsSet w sp base v room L) :
    Calls Try.prog 31 #[.pointer (some ⟨sp, 0, none⟩), p.v] w fun e W => ∃ k : Nat, e = .returned (.tuple #[.int .i64 (k : Int), .bool (decide (k < L.length ∧ pt L k = p))]) ∧ Splits L p k ∧ Below w.heap.size w W := by
  have hlen := hs.len
  have hrm := hs.rm
  obtain ⟨o, cap, hv⟩ := set_len hs
  have c1 := hs.c1
  rw [hv] at c1
  obtain ⟨pa, pb⟩ := p
  have hspw : sp < w.heap.size := hs.lt
  have hsrt := hs.sorted
  have HS : Hid _ := hs
  have HV : Hid _ := hv
  have HSO : Hid _ := hsrt
  clear hs hv hsrt
  unfold Pr.v
  go_enter Try.func31, Try.ntmps31
  go_wp2
  go_region
  go_wp2
  go_loopw [6, 7] (fun lo hi wr => ∃ l h : Nat, lo = .int .i64 (l : Int) ∧ hi = .int .i64 (h : Int) ∧ l ≤ h ∧ h ≤ L.length ∧ Hid (∀ j, j < l → (pt L j).Lt ⟨pa, pb⟩) ∧ Hid (∀ j, h ≤ j → j < L.length → ¬ (pt L j).Lt ⟨pa, pb⟩) ∧ Hid (Below w.heap.size w wr) ∧ w.heap.size < wr.heap.size ∧ wr.cell? ⟨w.heap.size, 0, none⟩ = some (.int .i64 pa) ∧ wr.cell? ⟨w.heap.size, 1, none⟩ = some (.int .i64 pb)) (fun lo hi _ => (intOf hi).toNat - (intOf lo).toNat)
  case atStart =>
    refine ⟨0, L.length, rfl, rfl, Nat.zero_le _, Nat.le_refl _, fun j hj => absurd hj (by omega), fun j hj hj' => absurd hj' (by omega), ?_, ?_, ?_, ?_⟩
    · exact ((Below.refl _ w).alloc (Nat.le_refl _) _).drew
    · simp
    · simp [go_sem]
    · simp [go_sem]
  case round =>
    obtain ⟨l, h, rfl, rfl, hlh, hh, HL, HH, HB, hwr, b0, b1⟩ := hrel
    have c1 : wr.cell? ⟨sp, 1, none⟩ = some (.slice o L.length cap) := (HB.out.cell hspw).trans c1
    by_cases hlt : l < h
    · obtain ⟨m, hm⟩ : ∃ m : Nat, m = (l + h) / 2 := ⟨_, rfl⟩
      have hm1 : l ≤ m := by omega
      have hm2 : m < h := by omega
      have hmd : ((l : Int) + (h : Int)) / 2 = (m : Int) := by omega
      have hmt : ((l : Int) + (h : Int)).tdiv 2 = (m : Int) := by rw [Int.tdiv_eq_ediv_of_nonneg (by omega)]; exact hmd
      obtain ⟨g, cap', hv', hlc, hcm, hcell⟩ := set_row (HS.out.below HB.out) (k := m) (by omega)
      rw [HV.out] at hv'
      simp only [Value.slice.injEq, true_and] at hv'
      obtain ⟨rfl, rfl⟩ := hv'
      obtain ⟨g0, g1⟩ := hcell m (by omega)
      have e1 : (⟨(pt L m).a, (pt L m).b⟩ : Pr) = pt L m := rfl
      have HA : Hid (∀ W : World, Calls Try.prog 42 #[.agg #[.int .i64 (pt L m).a, .int .i64 (pt L m).b], .agg #[.int .i64 pa, .int .i64 pb]] W fun e W' => e = .returned (.bool (decide ((pt L m).Lt ⟨pa, pb⟩))) ∧ Below W.heap.size W W') := fun W => ahead_any (pt L m) ⟨pa, pb⟩ W
      clear e1
      have HLM : Hid ((pt L m).Lt ⟨pa, pb⟩ → ∀ j, j < m + 1 → (pt L j).Lt ⟨pa, pb⟩) := fun hh j hj => by
        by_cases e : j = m
        · subst e; exact hh
        · exact Lt.trans (pt_lt HSO.out (i := j) (j := m) (by omega) (by omega)) hh
      have HHM : Hid (¬ (pt L m).Lt ⟨pa, pb⟩ → ∀ j, m ≤ j → j < L.length → ¬ (pt L j).Lt ⟨pa, pb⟩) := fun hh j hj hjl hx => by
        by_cases e : j = m
        · subst e; exact hh hx
        · exact hh (Lt.trans (pt_lt HSO.out (i := m) (j := j) (by omega) hjl) hx)
      generalize (pt L m).a = ma at *
      generalize (pt L m).b = mb at *
      generalize hdec : (decide ((pt L m).Lt ⟨pa, pb⟩)) = dd at *
      have HD : Hid _ := hdec
      clear hdec hcell hm hmd
      go_wp2
      go_region_with (go_at_call 42; refine (HA.out _).mono ?_; rintro e W' ⟨rfl, hBW⟩)
      all_goals (cases dd)
      all_goals go_wp2
      all_goals go_roundw
      all_goals try (case measure => simp [intOf]; omega)
      all_goals try (case rel => obtain ⟨n1, n2, n3, n4⟩ := find_next HB.out hwr b0 b1 hBW; first | exact ⟨m + 1, h, by go_num, rfl, by omega, hh, HLM.out (of_decide_eq_true HD.out), HH, n1, n2, n3, n4⟩ | exact ⟨l, m, rfl, rfl, hm1, by omega, HL, HHM.out (of_decide_eq_false HD.out), n1, n2, n3, n4⟩)
    · obtain rfl : l = h := by omega
      have HSP : Hid (Splits L ⟨pa, pb⟩ l) := ⟨hh, HL.out, HH.out⟩
      by_cases hll : l < L.length
      · obtain ⟨g, cap', hv', hlc, hcm, hcell⟩ := set_row (HS.out.below HB.out) (k := l) hll
        rw [HV.out] at hv'
        simp only [Value.slice.injEq, true_and] at hv'
        obtain ⟨rfl, rfl⟩ := hv'
        obtain ⟨g0, g1⟩ := hcell l hll
        have HE : Hid (decide (l < L.length ∧ pt L l = ⟨pa, pb⟩) = ((pt L l).a == pa && (pt L l).b == pb)) := by
          show decide (l < L.length ∧ pt L l = ⟨pa, pb⟩) = ((pt L l).a == pa && (pt L l).b == pb)
          generalize pt L l = x
          obtain ⟨xa, xb⟩ := x
          simp only [Pr.mk.injEq, hll, true_and]
          rw [Bool.eq_iff_iff]
          simp
        generalize (pt L l).a = ma at *
        generalize (pt L l).b = mb at *
        clear hcell HL HH
        by_cases ea : ma = pa
        · subst ea
          by_cases eb : mb = pb
          · subst eb
            have HE' : Hid (decide (l < L.length ∧ pt L l = ⟨ma, mb⟩) = true) := HE.out.trans (by simp)
            go_wp2
            go_quiet (fail)
            go_wp2
            go_ret2
            exact ⟨l, by rw [HE'.out]; rfl, HSP.out, HB.out.trans ⟨rfl, rfl, rfl, Nat.le_refl _, fun _ _ => rfl⟩⟩
          · have HE' : Hid (decide (l < L.length ∧ pt L l = ⟨ma, pb⟩) = false) := HE.out.trans (by simp [eb])
            have eb' : (mb == pb) = false := beq_eq_false_iff_ne.2 eb
            go_wp2
            go_quiet (fail)
            go_wp2
            go_ret2
            exact ⟨l, by rw [HE'.out]; rfl, HSP.out, HB.out.trans ⟨rfl, rfl, rfl, Nat.le_refl _, fun _ _ => rfl⟩⟩
        · have HE' : Hid (decide (l < L.length ∧ pt L l = ⟨pa, pb⟩) = false) := HE.out.trans (by simp [ea])
          have ea' : (ma == pa) = false := beq_eq_false_iff_ne.2 ea
          go_wp2
          go_quiet (fail)
          go_wp2
          go_ret2
          exact ⟨l, by rw [HE'.out]; rfl, HSP.out, HB.out.trans ⟨rfl, rfl, rfl, Nat.le_refl _, fun _ _ => rfl⟩⟩
      · go_wp2
        go_quiet (fail)
        go_wp2
        go_ret2
        exact ⟨l, by rw [decide_eq_false (fun h => hll h.1)]; rfl, HSP.out, HB.out.trans ⟨rfl, rfl, rfl, Nat.le_refl _, fun _ _ => rfl⟩⟩

theorem splits_mem {L : List Pr} {p : Pr} {k : Nat} (h : Splits L p k) (hs : L.Pairwise Pr.Lt) : (k < L.length ∧ pt L k = p) ↔ p ∈ L := by
  constructor
  · rintro ⟨a, b⟩
    rw [← b]; exact pt_mem a
  · intro hm
    obtain ⟨i, hi, e⟩ := List.mem_iff_getElem.1 hm
    have e' : pt L i = p := by unfold pt; rw [List.getElem?_eq_getElem hi]; exact e
    have h1 : ¬ i < k := fun hlt => Lt.irrefl p (e' ▸ h.2.1 i hlt)
    have h2 : ¬ k < i := fun hlt => h.2.2 k (Nat.le_refl _) (Nat.lt_trans hlt hi) (e' ▸ pt_lt hs hlt hi)
    obtain rfl : i = k := by omega
    exact ⟨hi, e'⟩

/-- A pair laid into a list, in its place. -/
def ins (p : Pr) : List Pr → List Pr
  | [] => [p]
  | q :: r => if q.Lt p then q :: ins p r else p :: q :: r
theorem splits_ins : ∀ {L : List Pr} {p : Pr} {k : Nat}, Splits L p k → L.take k ++ [p] ++ L.drop k = ins p L
  | [], p, k, h => by
    have : k = 0 := by have := h.1; simpa using this
    subst this; simp [ins]
  | q :: r, p, 0, h => by
    have : ¬ q.Lt p := h.2.2 0 (Nat.le_refl _) (by simp)
    simp [ins, this]
  | q :: r, p, k + 1, h => by
    have hq : q.Lt p := h.2.1 0 (by omega)
    have ih := splits_ins (L := r) (p := p) (k := k) ⟨by have := h.1; simpa using this, fun j hj => h.2.1 (j + 1) (by omega), fun j hj hl => h.2.2 (j + 1) (by omega) (by simpa using hl)⟩
    simp only [ins, hq, if_true, ← ih]
    simp
theorem mem_ins {p q : Pr} : ∀ {L : List Pr}, q ∈ ins p L ↔ q = p ∨ q ∈ L
  | [] => by simp [ins]
  | x :: r => by
    simp only [ins]
    split
    · simp only [List.mem_cons, mem_ins (L := r)]
      constructor <;> (intro h; rcases h with h | h | h <;> simp [h])
    · simp only [List.mem_cons]
theorem ins_sorted {p : Pr} : ∀ {L : List Pr}, L.Pairwise Pr.Lt → p ∉ L → (ins p L).Pairwise Pr.Lt
  | [], _, _ => by simp [ins]
  | x :: r, h, hn => by
    rw [List.pairwise_cons] at h
    simp only [List.mem_cons, not_or] at hn
    simp only [ins]
    split
    · rename_i hx
      rw [List.pairwise_cons]
      refine ⟨fun y hy => ?_, ins_sorted h.2 hn.2⟩
      rcases mem_ins.1 hy with rfl | hy
      · exact hx
      · exact h.1 y hy
    · rename_i hx
      have hpx : p.Lt x := Classical.byContradiction fun hc => hn.1 (Lt.total hc hx)
      rw [List.pairwise_cons]
      refine ⟨fun y hy => ?_, List.pairwise_cons.2 h⟩
      rcases List.mem_cons.1 hy with rfl | hy
      · exact hpx
      · exact Lt.trans hpx (h.1 y hy)
theorem ins_length {p : Pr} : ∀ {L : List Pr}, (ins p L).length = L.length + 1
  | [] => rfl
  | x :: r => by
    simp only [ins]
    split
    · simp [ins_length (L := r)]
    · simp

/-- Two lists that rise and have the same pairs are the same. -/
theorem same_of_mem : ∀ {L M : List Pr}, L.Pairwise Pr.Lt → M.Pairwise Pr.Lt → (∀ p, p ∈ L ↔ p ∈ M) → L = M
  | [], [], _, _, _ => rfl
  | [], y :: m, _, _, h => absurd ((h y).2 (by simp)) (by simp)
  | x :: l, [], _, _, h => absurd ((h x).1 (by simp)) (by simp)
  | x :: l, y :: m, hl, hm, h => by
    rw [List.pairwise_cons] at hl hm
    have hxy : x = y := by
      rcases List.mem_cons.1 ((h x).1 (by simp)) with e | hx
      · exact e
      · rcases List.mem_cons.1 ((h y).2 (by simp)) with e | hy
        · exact e.symm
        · exact absurd (Lt.trans (hl.1 y hy) (hm.1 x hx)) (Lt.irrefl x)
    subst hxy
    rw [same_of_mem hl.2 hm.2 fun p => ?_]
    constructor
    · intro hp
      rcases List.mem_cons.1 ((h p).1 (List.mem_cons_of_mem _ hp)) with e | k
      · subst e; exact absurd (hl.1 p hp) (Lt.irrefl p)
      · exact k
    · intro hp
      rcases List.mem_cons.1 ((h p).2 (List.mem_cons_of_mem _ hp)) with e | k
      · subst e; exact absurd (hm.1 p hp) (Lt.irrefl p)
      · exact k

theorem has_any (sp base : Nat) (v : Value) (room : Nat) (L : List Pr) (p : Pr) (w : World) (hs : IsSet w sp base v room L) :
    Calls Try.prog 41 #[.pointer (some ⟨sp, 0, none⟩), p.v] w fun e W => e = .returned (.bool (decide (p ∈ L))) ∧ Below w.heap.size w W := by
  obtain ⟨pa, pb⟩ := p
  have HF : Hid (∀ W, Below w.heap.size w W → Calls Try.prog 31 #[.pointer (some ⟨sp, 0, none⟩), .agg #[.int .i64 pa, .int .i64 pb]] W fun e W' => ∃ (k : Nat), e = .returned (.tuple #[.int .i64 (k : Int), .bool (decide ((⟨pa, pb⟩ : Pr) ∈ L))]) ∧ Below W.heap.size W W') := fun W hB => (find_any sp base v room L ⟨pa, pb⟩ W (hs.below hB)).mono (by
    rintro e W' ⟨k, rfl, hsp, hb⟩
    exact ⟨k, by rw [show decide (k < L.length ∧ pt L k = ⟨pa, pb⟩) = decide ((⟨pa, pb⟩ : Pr) ∈ L) from decide_eq_decide.2 (splits_mem hsp hs.sorted)], hb⟩)
  have hB0 : Below w.heap.size w (w.alloc (.cells #[.int .i64 pa, .int .i64 pb] 60)) := (Below.refl _ w).alloc (Nat.le_refl _) _
  unfold Pr.v
  clear hs
  go_enter Try.func41, Try.ntmps41
  go_wp2_with (go_at_call 31; refine (HF.out _ hB0).mono ?_; rintro e W' ⟨k, rfl, hb⟩)
  go_ret
  exact ⟨rfl, hB0.trans (hb.mono hB0.size)⟩
end Go.Proofs.Ytbbmjfaflcbimaa
