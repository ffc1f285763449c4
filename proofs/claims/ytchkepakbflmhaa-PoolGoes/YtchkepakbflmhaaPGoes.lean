/- Going through a pool ends when it is told to, and has told the first ones by then: true for all lists of ints and all numbers. -/
import Derived.Test.YtchkepakbflmhaaPoolE
import Derived.Test.YtchkepakbflmhaaRows
import Derived.ProofKit
import Derived.OpenShut
import Derived.ShutString
import Derived.ChangeOld
namespace Go.Proofs.Ytchkepakbflmhaa
namespace poolGoes
open Go.ChangeShapes Go.WideShapes Go.ChangeAt Go.RowKit Go.Shelf
set_option linter.unusedVariables false

theorem own : ownKnob Try.prog.godebug = none := by kernel_rfl
theorem laidOut : laidOutB Try.prog = true := by kernel_rfl

/-- What the walk is told of a slice of integers that came in (after the guide's shell). -/
def IsRow (k : IntKind) (w : World) (a : Option Addr) (len cap : Nat) (zs : List Int) : Prop :=
  (a = none ∧ len = 0 ∧ cap = 0 ∧ zs = []) ∨
  ∃ x, a = some x ∧ len ≤ cap ∧ cap ≤ maxLen ∧ zs.length = cap ∧ (∀ i, i < zs.length → w.cell? (x.add i) = some (.int k (zs.getD i 0))) ∧ ∀ n ∈ zs, (Lit.int k n).wf = true

theorem pick_any (c n : Int) (w : World) (h0 : -9223372036854775808 ≤ c) (h1 : c ≤ 9223372036854775807) (hn : 0 < n) (hn' : n ≤ 9223372036854775807) :
    Calls Try.prog 10 #[.int .i64 c, .int .i64 n] w fun e w' => ∃ r : Int, e = .returned (.int .i64 r) ∧ 0 ≤ r ∧ r < n ∧ w' = w := by
  by_cases hc : c < 0
  · have hb : 0 ≤ -(c + 1) := by omega
    have hb' : -(c + 1) ≤ 9223372036854775807 := by omega
    have hz : (n == 0) = false := beq_eq_false_iff_ne.2 (by omega)
    go_enter Try.func10, Try.ntmps10
    go_wp2
    go_ret
    have e : (c + 1).tmod n = -(-(c + 1) % n) := by
      rw [← Int.tmod_eq_emod_of_nonneg hb, Int.neg_tmod, Int.neg_neg]
    have m0 := Int.emod_nonneg (-(c + 1)) (show n ≠ 0 by omega)
    have m1 := Int.emod_lt_of_pos (-(c + 1)) hn
    exact ⟨_, rfl, by rw [e]; omega, by rw [e]; omega, rfl⟩
  · have hz : (n == 0) = false := beq_eq_false_iff_ne.2 (by omega)
    go_enter Try.func10, Try.ntmps10
    go_wp2
    go_ret
    exact ⟨_, rfl, Int.emod_nonneg _ (by omega), Int.emod_lt_of_pos _ hn, rfl⟩

/-- The first k of z are there. -/
def filled (z : Nat → Int) (k : Nat) : List Pl := (List.range 64).map fun i => if i < k then ⟨0, true, z i⟩ else ⟨0, false, 0⟩
theorem filled_length (z : Nat → Int) (k : Nat) : (filled z k).length = 64 := by simp [filled]
theorem filled_at (z : Nat → Int) (k i : Nat) (h : i < 64) : at_ (filled z k) i = if i < k then ⟨0, true, z i⟩ else ⟨0, false, 0⟩ := by simp [at_, filled, h]
theorem filled_zero (z : Nat → Int) : filled z 0 = List.replicate 64 ⟨0, false, 0⟩ := by
  apply List.ext_getElem
  · simp [filled]
  · intro i h1 h2; simp only [filled, List.getElem_map, List.getElem_replicate, Nat.not_lt_zero, if_false]
theorem filled_succ (z : Nat → Int) (k : Nat) (h : k < 64) : (filled z k).set k ⟨(at_ (filled z k) k).age, true, z k⟩ = filled z (k + 1) := by
  rw [filled_at z k k h, if_neg (by omega)]
  apply List.ext_getElem
  · simp [filled]
  · intro i h1 h2
    rw [List.getElem_set]
    by_cases e : k = i
    · subst e; simp [filled]
    · simp only [e, if_false, filled, List.getElem_map, List.getElem_range]
      by_cases h : i < k
      · rw [if_pos h, if_pos (by omega)]
      · rw [if_neg h, if_neg (by omega)]

theorem put_next (pp pl : Nat) (z : Nat → Int) (k : Nat) (w : World) (hk : k < 64) (h : IsPool w pp pl (filled z k)) :
    Calls Try.prog 20 #[.pointer (some ⟨pp, 0, none⟩), .int .i64 (z k)] w fun e W => (∃ v, e = .returned v) ∧ IsPool W pp pl (filled z (k + 1)) ∧ w.grownBy W (some pl) := by
  have hp := put_at pp pl (filled z k) (z k) k w h (by rw [filled_length]; exact hk) (by rw [filled_at z k k hk, if_neg (by omega)]; rfl) (fun j hj => by rw [filled_at z k j (by omega), if_pos hj]; rfl)
  rw [filled_succ z k hk] at hp
  exact hp.mono fun e W ⟨a, b, c⟩ => ⟨⟨_, a⟩, b, c⟩

/-- The first ones, in their order. -/
def InOrder {L : List Pl} (pre : List (Live L)) : Prop := ∀ j (h : j < pre.length), (pre[j]).1.val = j
theorem InOrder.nil {L : List Pl} : InOrder ([] : List (Live L)) := fun j h => by simp at h
theorem InOrder.snoc {L : List Pl} {pre : List (Live L)} (h : InOrder pre) (x : Live L) (hx : x.1.val = pre.length) : InOrder (pre ++ [x]) := fun j hj => by
  rw [List.length_append] at hj
  by_cases e : j < pre.length
  · rw [List.getElem_append_left e]; exact h j e
  · obtain rfl : j = pre.length := by simp at hj; omega
    simp [hx]
theorem InOrder.last {L : List Pl} {pre : List (Live L)} {x : Live L} (h : InOrder (pre ++ [x])) : x.1.val = pre.length := by
  have := h pre.length (by simp)
  simpa using this
theorem lives_filled (z : Nat → Int) (m : Nat) (hm : m ≤ 64) : ∀ k, k ≤ (filled z m).length → InOrder (lives (filled z m) (ups (filled z m).length k)) ∧ (lives (filled z m) (ups (filled z m).length k)).length = min k m
  | 0, _ => ⟨by rw [ups_zero]; exact InOrder.nil, by rw [ups_zero]; simp [lives]⟩
  | k + 1, hk => by
    obtain ⟨h1, h2⟩ := lives_filled z m hm k (by omega)
    have hk64 : k < 64 := by rw [filled_length] at hk; omega
    rw [ups_succ (by omega), lives_append]
    by_cases e : k < m
    · have hh : (at_ (filled z m) k).has = true := by rw [filled_at z m k hk64, if_pos e]
      have hl : lives (filled z m) [⟨k, by omega⟩] = [⟨⟨k, by omega⟩, hh⟩] := by simp [lives, hh]
      rw [hl]
      refine ⟨h1.snoc _ ?_, ?_⟩
      · show k = _; rw [h2]; omega
      · rw [List.length_append, h2]; simp; omega
    · have hh : (at_ (filled z m) k).has = false := by rw [filled_at z m k hk64, if_neg e]
      have hl : lives (filled z m) [⟨k, by omega⟩] = [] := by simp [lives, hh]
      rw [hl, List.append_nil]
      exact ⟨h1, by rw [h2]; omega⟩
theorem lives_full (z : Nat → Int) (m : Nat) (hm : m ≤ 64) : (lives (filled z m) (ups (filled z m).length (filled z m).length)).length = m := by
  have h := (lives_filled z m hm _ (Nat.le_refl _)).2
  have hl := filled_length z m
  omega
theorem live_filled (z : Nat → Int) (m : Nat) (x : Live (filled z m)) : x.1.val < m ∧ at_ (filled z m) x.1.val = ⟨0, true, z x.1.val⟩ := by
  obtain ⟨⟨i, hi⟩, hx⟩ := x
  rw [filled_length] at hi
  have hx' : (at_ (filled z m) i).has = true := hx
  rw [filled_at z m i hi] at hx'
  show i < m ∧ at_ (filled z m) i = _
  by_cases e : i < m
  · exact ⟨e, by rw [filled_at z m i hi, if_pos e]⟩
  · rw [if_neg e] at hx'; cases hx'
theorem ret_bool {x y : Bool} (h : x = y) : Ending.returned (.bool x) = .returned (.bool y) := by rw [h]

attribute [local go_sem] Oper.semAt_some in
set_option maxRecDepth 100000 in
set_option maxHeartbeats 8000000 in
/-- At a list that is there. -/
theorem walk_lt (b off len cap : Nat) (z : Nat → Int) (stop : Int) (w : World) (hlc : len ≤ cap) (hlt9 : len < 64) (hm : cap ≤ 9223372036854775807) (hcell : ∀ i, i < len → w.cell? ⟨b, off + i, none⟩ = some (.int .i64 (z i))) (s0 : -9223372036854775808 ≤ stop) (s1 : stop ≤ 9223372036854775807) :
    Calls Try.prog 5 #[.slice (some ⟨b, off, none⟩) len cap, .int .i64 stop] w fun e w' => e = .returned (.bool true) ∧ Below w.heap.size w w' := by
  refine (callsIn_wide (n := 12)).1 ?_
  have h1 : 1 ≤ 12 := by omega
  refine callsIn_of_wp_marks Try.func5 rfl trivial ?_ rfl
  simp only [Try.ntmps5, List.size_toArray, List.length_cons, List.length_nil, Nat.reduceAdd, Nat.reduceSub, Array.replicate_succ, Array.replicate_zero, List.push_toArray, List.append_toArray, List.nil_append, List.cons_append]
  gi_wp2_with (fail)
  refine ⟨trivial, (callsIn_wide.2 (awake_any _)).mono ?_⟩
  rintro e W1 ⟨rfl, hb1⟩
  have c0 : ∀ i, i < len → W1.cell? ⟨b, off + i, none⟩ = some (.int .i64 (z i)) := fun i hi => by
    have hlt : b < w.heap.size := World.block_lt_of_cell? _ _ (hcell i hi)
    rw [hb1.cell (by simp; omega), World.cell?_alloc_past _ _ _ (by simp; omega), World.cell?_alloc_past _ _ _ (by simp; omega), World.cell?_alloc_past _ _ _ hlt]
    exact hcell i hi
  have bl1 : Boxed W1 w.heap.size 31 (.slice (some ⟨b, off, none⟩) len cap) := (hb1.block _ (by first | (simp; done) | (simp; omega))).trans (((Boxed.new w 31 (.slice (some ⟨b, off, none⟩) len cap)).alloc _).alloc _)
  have bs1 : Boxed W1 (w.heap.size + 1) 3 (.int .i64 stop) := by
    have h := Boxed.new (w.alloc (.cells #[.slice (some ⟨b, off, none⟩) len cap] 31)) 3 (.int .i64 stop)
    rw [World.size_alloc] at h
    exact (hb1.block _ (by first | (simp; done) | (simp; omega))).trans (h.alloc _)
  have br1 : Boxed W1 (w.heap.size + 1 + 1) 4 (.bool false) := by
    have h := Boxed.new ((w.alloc (.cells #[.slice (some ⟨b, off, none⟩) len cap] 31)).alloc (.cells #[.int .i64 stop] 3)) 4 (.bool false)
    rw [World.size_alloc, World.size_alloc] at h
    exact (hb1.block _ (by first | (simp; done) | (simp; omega))).trans h
  have hB1 : Below w.heap.size w W1 := ((((Below.refl _ w).alloc (Nat.le_refl _) _).alloc (by simp) _).alloc (by simp; omega) _).trans (hb1.mono (by simp; omega))
  have hs1 := hb1.size
  simp only [World.size_alloc] at hs1
  obtain ⟨S, hS⟩ : ∃ n, n = w.heap.size := ⟨_, rfl⟩
  rw [← hS] at bl1 bs1 br1
  have hSl : w.heap.size ≤ S := by omega
  have hSr : S ≤ w.heap.size := by omega
  have hs2 : S + 3 ≤ W1.heap.size := by omega
  rw [← hS]
  clear hS hb1 hs1
  gi_wp2_with (fail)
  have N := new_yes 64 W1 (by omega) (by omega)
  refine ⟨trivial, (callsIn_wide.2 N).mono ?_⟩
  clear N
  rintro e W2 ⟨pp, pl, rfl, hpl, hpp, hp, hb2⟩
  rw [← filled_zero z] at hp
  have c0 : ∀ i, i < len → W2.cell? ⟨b, off + i, none⟩ = some (.int .i64 (z i)) := fun i hi => (hb2.cell (World.block_lt_of_cell? _ _ (c0 i hi))).trans (c0 i hi)
  have bl2 : Boxed W2 S 31 (.slice (some ⟨b, off, none⟩) len cap) := (hb2.block _ (by omega)).trans bl1
  have bs2 : Boxed W2 (S + 1) 3 (.int .i64 stop) := (hb2.block _ (by omega)).trans bs1
  have br2 : Boxed W2 (S + 1 + 1) 4 (.bool false) := (hb2.block _ (by omega)).trans br1
  have hB2 : Below w.heap.size w W2 := hB1.trans (hb2.mono hB1.size)
  have hs3 := hb2.size
  clear hb2 bl1 bs1 br1 hB1
  have cl := bl2.cell
  have fl := bl2.frozen
  have cs := bs2.cell
  have cr := br2.cell
  have HB : Hid _ := hB2
  clear hB2
  gi_wp2_with (fail)
  obtain ⟨W3, hW3⟩ : ∃ W3, W3 = W2.setCell ⟨S, 0, none⟩ (.slice (some ⟨b, off, none⟩) len cap) := ⟨_, rfl⟩
  have bl3 : Boxed W3 S 31 (.slice (some ⟨b, off, none⟩) len cap) := by rw [hW3]; exact bl2.set _
  have bs3 : Boxed W3 (S + 1) 3 (.int .i64 stop) := by rw [hW3]; exact box_far bs2 (by show S + 1 ≠ S; omega) _
  have br3 : Boxed W3 (S + 1 + 1) 4 (.bool false) := by rw [hW3]; exact box_far br2 (by show S + 1 + 1 ≠ S; omega) _
  have hp3 : IsPool W3 pp pl (filled z 0) := by rw [hW3]; exact hp.far (by show pl ≠ S; omega) (by show pp ≠ S; omega) _
  have hB3 : Hid (Below w.heap.size w W3) := by show Below _ _ _; rw [hW3]; exact HB.out.setCell (p := ⟨S, 0, none⟩) hSl _
  have c3 : ∀ i, i < len → W3.cell? ⟨b, off + i, none⟩ = some (.int .i64 (z i)) := fun i hi => by
    have hlt : b < w.heap.size := World.block_lt_of_cell? _ _ (hcell i (by omega))
    rw [hW3, World.cell?_setCell_other _ _ _ _ (fun e => by injection e with e1; omega)]
    exact c0 i (by omega)
  have hs4 : W3.heap.size = W2.heap.size := by rw [hW3]; simp [World.setCell]
  have hs5 : S + 3 ≤ W3.heap.size := by omega
  rw [← hW3]
  clear hW3 bl2 bs2 br2 hp HB c0 cl fl cs cr hs4
  gi_loopw [8] (fun i wr => ∃ k : Nat, k ≤ len ∧ i = .int .i64 k ∧ IsPool wr pp pl (filled z k) ∧ Hid (Below w.heap.size w wr) ∧ Boxed wr S 31 (.slice (some ⟨b, off, none⟩) len cap) ∧ Boxed wr (S + 1) 3 (.int .i64 stop) ∧ Boxed wr (S + 1 + 1) 4 (.bool false) ∧ (∀ i, i < len → wr.cell? ⟨b, off + i, none⟩ = some (.int .i64 (z i))) ∧ S + 3 ≤ wr.heap.size) (fun i _ => len - (intOf i).toNat)
  case atStart => exact ⟨0, Nat.zero_le _, rfl, hp3, hB3, bl3, bs3, br3, c3, hs5⟩
  case round =>
    clear hp3 hB3 bl3 bs3 br3 c3 hs5
    obtain ⟨k, hk, rfl, hp, HB, bl, bs, br, c, hs⟩ := hrel
    have cl := bl.cell
    have cs := bs.cell
    have cr := br.cell
    have fs := bs.frozen
    have fr := br.frozen
    by_cases hlt : k < len
    · have ck := c k hlt
      have hk64 : k < 64 := by omega
      have P := put_next pp pl z k wr hk64 hp
      have HP : Hid _ := P
      clear P
      gi_wp2_with (refine ⟨trivial, ?_⟩; gi_at_call 20; refine CallsIn.mono (callsIn_wide.2 HP.out) ?_; rintro e wn ⟨⟨v, rfl⟩, hpn, hg⟩)
      go_roundw
      case rel =>
        exact ⟨k + 1, by omega, by go_num, hpn, HB.out.grown hg HB.out.size (fun j e => by cases e; omega), bl.kept hg (by simp; omega), bs.kept hg (by simp; omega), br.kept hg (by simp; omega), fun i hi => hg.cell (c i hi) (by have hb9 : b < w.heap.size := World.block_lt_of_cell? _ _ (hcell i (by omega)); simp; omega), Nat.le_trans hs hg.size⟩
      case measure => simp [intOf]; omega
    · obtain rfl : k = len := by omega
      gi_wp2_with (fail)
      refine ⟨trivial, (callsIn_wide.2 (pick_any stop 65 _ s0 s1 (by omega) (by omega))).mono ?_⟩
      rintro e w4 ⟨st, rfl, st0, st1, rfl⟩
      gi_wp2_with (refine ⟨trivial, ?_⟩; gi_at_call 24; refine (callsIn_wide.2 (all_in _ _)).mono ?_; rintro e w' ⟨rfl, rfl⟩)
      obtain ⟨T, hT⟩ : ∃ n, n = w4.heap.size := ⟨_, rfl⟩
      obtain ⟨W5, hW5⟩ : ∃ W5, W5 = ((w4.setCell ⟨S + 1, 0, none⟩ (.int .i64 st)).alloc (.cells #[.int .i64 0] 3)).alloc (.cells #[.pointer (some ⟨pp, 0, none⟩)] 24) := ⟨_, rfl⟩
      have sz0 : (w4.setCell ⟨S + 1, 0, none⟩ (.int .i64 st)).heap.size = T := by rw [hT]; simp [World.setCell]
      have hsz : W5.heap.size = T + 2 := by rw [hW5]; simp [sz0]
      have hST : S + 3 ≤ T := by omega
      have hppT : pp < T := by rw [hT]; exact World.block_lt_of_cell? _ _ hp.slice
      have hplT : pl < T := by rw [hT]; exact hp.lt
      have gr : w4.grownBy W5 (some (S + 1)) := by
        rw [hW5]
        exact G.trans (G.trans (G.set (World.grownBy.refl w4 _) 0 (.int .i64 st)) (World.grownBy_alloc _ _ _)) (World.grownBy_alloc _ _ _)
      have bn5 : Boxed W5 T 3 (.int .i64 0) := by
        rw [hW5]
        have h := Boxed.new (w4.setCell ⟨S + 1, 0, none⟩ (.int .i64 st)) 3 (.int .i64 0)
        rw [sz0] at h
        exact h.alloc _
      have hbs : W5.cell? ⟨T + 1, 0, none⟩ = some (.pointer (some ⟨pp, 0, none⟩)) := by
        rw [hW5]
        have h := (Boxed.new ((w4.setCell ⟨S + 1, 0, none⟩ (.int .i64 st)).alloc (.cells #[.int .i64 0] 3)) 24 (.pointer (some ⟨pp, 0, none⟩))).cell
        rw [World.size_alloc, sz0] at h
        exact h
      have bl5 : Boxed W5 S 31 (.slice (some ⟨b, off, none⟩) k cap) := bl.kept gr (by simp)
      have br5 : Boxed W5 (S + 1 + 1) 4 (.bool false) := br.kept gr (by simp)
      have bs5 : Boxed W5 (S + 1) 3 (.int .i64 st) := by rw [hW5]; exact ((bs.set _).alloc _).alloc _
      have hp5 : IsPool W5 pp pl (filled z k) := hp.grown gr (by simp; omega) (by simp; omega)
      have hB5 : Below w.heap.size w W5 := HB.out.grown gr HB.out.size (fun j e => by cases e; omega)
      have hb9 : ∀ i, i < k → b < w.heap.size := fun i hi => World.block_lt_of_cell? _ _ (hcell i (by omega))
      have c5 : ∀ i, i < k → W5.cell? ⟨b, off + i, none⟩ = some (.int .i64 (z i)) := fun i hi => gr.cell (c i hi) (by have := hb9 i hi; simp; omega)
      rw [← hW5, ← hT]
      clear hW5 sz0 hT gr bl br bs hp HB c cl cs cr fs fr
      refine' range_by h1 (gf := 33) (lb := #[.pointer (some ⟨T + 1, 0, none⟩)]) rfl (enters_of Try.func33 (by kernel_rfl) rfl)
        (all_tells (12 - 1) (by omega) (T + 1) pp pl (filled z k) W5 hp5 hbs) (fun h k => Keep.trans h k) (fun _ _ _ o' _ h hc => keep_b o' h hc) (fun _ => rfl)
        (fun pre V => InOrder pre ∧ (pre.length : Int) ≤ st ∧ Below w.heap.size w V ∧ Boxed V T 3 (.int .i64 (pre.length : Int)) ∧ Boxed V S 31 (.slice (some ⟨b, off, none⟩) k cap) ∧ Boxed V (S + 1) 3 (.int .i64 st) ∧ Boxed V (S + 1 + 1) 4 (.bool false) ∧ (∀ i, i < k → V.cell? ⟨b, off + i, none⟩ = some (.int .i64 (z i))))
        (fun c pre V => (c = .ret ∧ ¬ InOrder pre) ∨ (c = .exit 2 ∧ ∃ pre' x, pre = pre' ++ [x] ∧ (pre'.length : Int) = st ∧ Below w.heap.size w V ∧ Boxed V T 3 (.int .i64 st) ∧ Boxed V S 31 (.slice (some ⟨b, off, none⟩) k cap) ∧ Boxed V (S + 1) 3 (.int .i64 st) ∧ Boxed V (S + 1 + 1) 4 (.bool false)))
        (fun s A B row hs hg hr => ⟨hs.1, hs.2.1, hs.2.2.1.grown hg hs.2.2.1.size (fun k e => by have := (hr k e).1; omega), box_own hs.2.2.2.1 hg hr, box_own hs.2.2.2.2.1 hg hr, box_own hs.2.2.2.2.2.1 hg hr, box_own hs.2.2.2.2.2.2.1 hg hr, fun i hi => hg.cell (hs.2.2.2.2.2.2.2 i hi) (fun e => by have h1 := (hr _ e.symm).1; have h2 := hb9 i hi; simp only at h1; omega)⟩)
        (fun c s A B row hs hg hr => hs.imp id (fun h => by
          obtain ⟨a1, pre', x, a2, a3, a4, a5, a6, a7, a8⟩ := h
          exact ⟨a1, pre', x, a2, a3, a4.grown hg a4.size (fun k e => by have := (hr k e).1; omega), box_own a5 hg hr, box_own a6 hg hr, box_own a7 hg hr, box_own a8 hg hr⟩))
        ⟨InOrder.nil, st0, hB5, bn5, bl5, bs5, br5, c5⟩ _ ?assign ?body ?done ?stop
      case assign =>
        intro l x W K hK
        unfold encA
        gi_wp2
        exact hK
      case body =>
        rintro l pre x V ⟨ho, hst, hB, bn, bl, bs, br, c⟩ hlen
        obtain ⟨hxi, hxa⟩ := live_filled z k x
        have e1 : handleOf (at_ (filled z k) x.1.val) x.1.val = (x.1.val : Int) + 1 := by rw [hxa]; simp [handleOf]
        have e2 : (at_ (filled z k) x.1.val).x = z x.1.val := by rw [hxa]
        rw [e1, e2]
        clear e1 e2 hxa
        obtain ⟨i, hi⟩ : ∃ i, i = x.1.val := ⟨_, rfl⟩
        rw [← hi] at hxi
        rw [← hi]
        have HI : Hid _ := hi
        clear hi
        have cn := bn.cell
        have fn := bn.frozen
        have cl := bl.cell
        have cs := bs.cell
        have cr := br.cell
        have fr := br.frozen
        rw [filled_length] at hlen
        by_cases hq : (pre.length : Int) = st
        · subst hq
          gi_wp2
          exact ⟨(KeepsOthers.refl _).from _, Or.inr ⟨rfl, pre, x, rfl, rfl, hB, bn, bl, bs, br⟩⟩
        · have hb : ((pre.length : Int) == st) = false := beq_eq_false_iff_ne.2 hq
          have hlt2 : (pre.length : Int) < st := by omega
          clear hq hst
          by_cases h2 : i = pre.length
          · have ci := c i hxi
            subst h2
            gi_wp2
            refine ⟨(KeepsOthers.setCell _ _ _).from _, keep_grown (G.set (World.grownBy.refl V (some T)) 0 _) (fun r e => by cases e; omega), ho.snoc x HI.out.symm, ?_, hB.setCell (p := ⟨T, 0, none⟩) (by show w.heap.size ≤ T; omega) _, ?_, box_far bl (by show S ≠ T; omega) _, box_far bs (by show S + 1 ≠ T; omega) _, box_far br (by show S + 1 + 1 ≠ T; omega) _, fun i hi => ?_⟩
            · rw [List.length_append]; simp; omega
            · rw [List.length_append]; exact bn.set _
            · rw [World.cell?_setCell_other _ _ _ _ (fun e => by injection e with e1; have := hb9 i hi; omega)]
              exact c i hi
          · have hne : ((i : Int) + 1 != (pre.length : Int) + 1) = true := bne_iff_ne.2 (by omega)
            have hne' : ((i : Int) + 1 == (pre.length : Int) + 1) = false := beq_eq_false_iff_ne.2 (by omega)
            gi_wp2
            exact ⟨(KeepsOthers.setCell _ _ _).from _, Or.inl ⟨rfl, fun h => h2 (HI.out.trans h.last)⟩⟩
      case done =>
        rintro D ys V hD rfl ⟨ho, hst, hB, bn, bl, bs, br, c⟩ hK
        have hl' := lives_full z k (by omega)
        rw [hl'] at hst bn
        clear hl' ho c
        have cn := bn.cell
        have cl := bl.cell
        have cs := bs.cell
        have cr := br.cell
        have fr := br.frozen
        have hDS : S + 1 + 1 < D := by omega
        have fin : ∀ v : Value, (V.setCell ⟨S + 1 + 1, 0, none⟩ v).heap[D]? = some (.deferred (some [])) := fun v => (KeepsOthers.setCell _ _ _).same D _ hK rfl
        rcases Int.lt_or_eq_of_le hst with h | h
        · gi_wp2
          refine ⟨by simp, .inl ⟨_, _, rfl, run_takeDeferred (fin _), ?_⟩⟩
          have b9 := ((br.set (.bool true)).kept (grownBy_putObj' _ D (.deferred none)) (by simp; omega)).cell
          refine ⟨.bool true, by simp [results, Try.results5, go_sem, b9], rfl, ?_⟩
          exact (hB.setCell (p := ⟨S + 1 + 1, 0, none⟩) (by show w.heap.size ≤ S + 1 + 1; omega) _).trans (belowK_b (w := w) (Nat.le_refl _) _ D _ _ (by omega) (fin _) rfl rfl)
        · subst h
          gi_wp2
          refine ⟨by simp, .inl ⟨_, _, rfl, run_takeDeferred (fin _), ?_⟩⟩
          have b9 := ((br.set (.bool true)).kept (grownBy_putObj' _ D (.deferred none)) (by simp; omega)).cell
          refine ⟨.bool true, by simp [results, Try.results5, go_sem, b9], rfl, ?_⟩
          exact (hB.setCell (p := ⟨S + 1 + 1, 0, none⟩) (by show w.heap.size ≤ S + 1 + 1; omega) _).trans (belowK_b (w := w) (Nat.le_refl _) _ D _ _ (by omega) (fin _) rfl rfl)
      case stop =>
        rintro D c pre V hD ⟨mm, hmm, hpre⟩ hx hK
        rcases hx with ⟨rfl, hx⟩ | ⟨rfl, pre', x, a1, a2, hB, bn, bl, bs, br⟩
        · exact absurd (by rw [hpre]; exact (lives_filled z k (by omega) mm hmm).1) hx
        · have hl := (lives_filled z k (by omega) mm hmm).2
          rw [← hpre, a1, List.length_append] at hl
          have hlt3 : st < (k : Nat) := by first | (simp at hl; done) | (simp at hl; omega)
          clear hl a1 a2 hpre
          have cn := bn.cell
          have cl := bl.cell
          have cs := bs.cell
          have cr := br.cell
          have fr := br.frozen
          have hDS : S + 1 + 1 < D := by omega
          have fin : ∀ v : Value, (V.setCell ⟨S + 1 + 1, 0, none⟩ v).heap[D]? = some (.deferred (some [])) := fun v => (KeepsOthers.setCell _ _ _).same D _ hK rfl
          gi_wp2
          refine ⟨by simp, .inl ⟨_, _, rfl, run_takeDeferred (fin _), ?_⟩⟩
          have b9 := ((br.set (.bool true)).kept (grownBy_putObj' _ D (.deferred none)) (by simp; omega)).cell
          refine ⟨.bool true, by simp [results, Try.results5, go_sem, b9], rfl, ?_⟩
          exact (hB.setCell (p := ⟨S + 1 + 1, 0, none⟩) (by show w.heap.size ≤ S + 1 + 1; omega) _).trans (belowK_b (w := w) (Nat.le_refl _) _ D _ _ (by omega) (fin _) rfl rfl)

attribute [local go_sem] Oper.semAt_some in
set_option maxRecDepth 100000 in
set_option maxHeartbeats 8000000 in
/-- At a list that is there. -/
theorem walk_eq (b off  cap : Nat) (z : Nat → Int) (stop : Int) (w : World) (hlc : 64 ≤ cap)  (hm : cap ≤ 9223372036854775807) (hcell : ∀ i, i < 64 → w.cell? ⟨b, off + i, none⟩ = some (.int .i64 (z i))) (s0 : -9223372036854775808 ≤ stop) (s1 : stop ≤ 9223372036854775807) :
    Calls Try.prog 5 #[.slice (some ⟨b, off, none⟩) 64 cap, .int .i64 stop] w fun e w' => e = .returned (.bool true) ∧ Below w.heap.size w w' := by
  refine (callsIn_wide (n := 12)).1 ?_
  have h1 : 1 ≤ 12 := by omega
  refine callsIn_of_wp_marks Try.func5 rfl trivial ?_ rfl
  simp only [Try.ntmps5, List.size_toArray, List.length_cons, List.length_nil, Nat.reduceAdd, Nat.reduceSub, Array.replicate_succ, Array.replicate_zero, List.push_toArray, List.append_toArray, List.nil_append, List.cons_append]
  gi_wp2_with (fail)
  refine ⟨trivial, (callsIn_wide.2 (awake_any _)).mono ?_⟩
  rintro e W1 ⟨rfl, hb1⟩
  have c0 : ∀ i, i < 64 → W1.cell? ⟨b, off + i, none⟩ = some (.int .i64 (z i)) := fun i hi => by
    have hlt : b < w.heap.size := World.block_lt_of_cell? _ _ (hcell i hi)
    rw [hb1.cell (by simp; omega), World.cell?_alloc_past _ _ _ (by simp; omega), World.cell?_alloc_past _ _ _ (by simp; omega), World.cell?_alloc_past _ _ _ hlt]
    exact hcell i hi
  have bl1 : Boxed W1 w.heap.size 31 (.slice (some ⟨b, off, none⟩) 64 cap) := (hb1.block _ (by first | (simp; done) | (simp; omega))).trans (((Boxed.new w 31 (.slice (some ⟨b, off, none⟩) 64 cap)).alloc _).alloc _)
  have bs1 : Boxed W1 (w.heap.size + 1) 3 (.int .i64 stop) := by
    have h := Boxed.new (w.alloc (.cells #[.slice (some ⟨b, off, none⟩) 64 cap] 31)) 3 (.int .i64 stop)
    rw [World.size_alloc] at h
    exact (hb1.block _ (by first | (simp; done) | (simp; omega))).trans (h.alloc _)
  have br1 : Boxed W1 (w.heap.size + 1 + 1) 4 (.bool false) := by
    have h := Boxed.new ((w.alloc (.cells #[.slice (some ⟨b, off, none⟩) 64 cap] 31)).alloc (.cells #[.int .i64 stop] 3)) 4 (.bool false)
    rw [World.size_alloc, World.size_alloc] at h
    exact (hb1.block _ (by first | (simp; done) | (simp; omega))).trans h
  have hB1 : Below w.heap.size w W1 := ((((Below.refl _ w).alloc (Nat.le_refl _) _).alloc (by simp) _).alloc (by simp; omega) _).trans (hb1.mono (by simp; omega))
  have hs1 := hb1.size
  simp only [World.size_alloc] at hs1
  obtain ⟨S, hS⟩ : ∃ n, n = w.heap.size := ⟨_, rfl⟩
  rw [← hS] at bl1 bs1 br1
  have hSl : w.heap.size ≤ S := by omega
  have hSr : S ≤ w.heap.size := by omega
  have hs2 : S + 3 ≤ W1.heap.size := by omega
  rw [← hS]
  clear hS hb1 hs1
  gi_wp2_with (fail)
  have N := new_yes 64 W1 (by omega) (by omega)
  refine ⟨trivial, (callsIn_wide.2 N).mono ?_⟩
  clear N
  rintro e W2 ⟨pp, pl, rfl, hpl, hpp, hp, hb2⟩
  rw [← filled_zero z] at hp
  have c0 : ∀ i, i < 64 → W2.cell? ⟨b, off + i, none⟩ = some (.int .i64 (z i)) := fun i hi => (hb2.cell (World.block_lt_of_cell? _ _ (c0 i hi))).trans (c0 i hi)
  have bl2 : Boxed W2 S 31 (.slice (some ⟨b, off, none⟩) 64 cap) := (hb2.block _ (by omega)).trans bl1
  have bs2 : Boxed W2 (S + 1) 3 (.int .i64 stop) := (hb2.block _ (by omega)).trans bs1
  have br2 : Boxed W2 (S + 1 + 1) 4 (.bool false) := (hb2.block _ (by omega)).trans br1
  have hB2 : Below w.heap.size w W2 := hB1.trans (hb2.mono hB1.size)
  have hs3 := hb2.size
  clear hb2 bl1 bs1 br1 hB1
  have cl := bl2.cell
  have fl := bl2.frozen
  have cs := bs2.cell
  have cr := br2.cell
  have HB : Hid _ := hB2
  clear hB2
  gi_wp2_with (fail)
  obtain ⟨W3, hW3⟩ : ∃ W3, W3 = W2.setCell ⟨S, 0, none⟩ (.slice (some ⟨b, off, none⟩) 64 cap) := ⟨_, rfl⟩
  have bl3 : Boxed W3 S 31 (.slice (some ⟨b, off, none⟩) 64 cap) := by rw [hW3]; exact bl2.set _
  have bs3 : Boxed W3 (S + 1) 3 (.int .i64 stop) := by rw [hW3]; exact box_far bs2 (by show S + 1 ≠ S; omega) _
  have br3 : Boxed W3 (S + 1 + 1) 4 (.bool false) := by rw [hW3]; exact box_far br2 (by show S + 1 + 1 ≠ S; omega) _
  have hp3 : IsPool W3 pp pl (filled z 0) := by rw [hW3]; exact hp.far (by show pl ≠ S; omega) (by show pp ≠ S; omega) _
  have hB3 : Hid (Below w.heap.size w W3) := by show Below _ _ _; rw [hW3]; exact HB.out.setCell (p := ⟨S, 0, none⟩) hSl _
  have c3 : ∀ i, i < 64 → W3.cell? ⟨b, off + i, none⟩ = some (.int .i64 (z i)) := fun i hi => by
    have hlt : b < w.heap.size := World.block_lt_of_cell? _ _ (hcell i (by omega))
    rw [hW3, World.cell?_setCell_other _ _ _ _ (fun e => by injection e with e1; omega)]
    exact c0 i (by omega)
  have hs4 : W3.heap.size = W2.heap.size := by rw [hW3]; simp [World.setCell]
  have hs5 : S + 3 ≤ W3.heap.size := by omega
  rw [← hW3]
  clear hW3 bl2 bs2 br2 hp HB c0 cl fl cs cr hs4
  gi_loopw [8] (fun i wr => ∃ k : Nat, k ≤ 64 ∧ i = .int .i64 k ∧ IsPool wr pp pl (filled z k) ∧ Hid (Below w.heap.size w wr) ∧ Boxed wr S 31 (.slice (some ⟨b, off, none⟩) 64 cap) ∧ Boxed wr (S + 1) 3 (.int .i64 stop) ∧ Boxed wr (S + 1 + 1) 4 (.bool false) ∧ (∀ i, i < 64 → wr.cell? ⟨b, off + i, none⟩ = some (.int .i64 (z i))) ∧ S + 3 ≤ wr.heap.size) (fun i _ => 64 - (intOf i).toNat)
  case atStart => exact ⟨0, Nat.zero_le _, rfl, hp3, hB3, bl3, bs3, br3, c3, hs5⟩
  case round =>
    clear hp3 hB3 bl3 bs3 br3 c3 hs5
    obtain ⟨k, hk, rfl, hp, HB, bl, bs, br, c, hs⟩ := hrel
    have cl := bl.cell
    have cs := bs.cell
    have cr := br.cell
    have fs := bs.frozen
    have fr := br.frozen
    by_cases hlt : k < 64
    · have ck := c k hlt
      have hk64 : k < 64 := by omega
      have P := put_next pp pl z k wr hk64 hp
      have HP : Hid _ := P
      clear P
      gi_wp2_with (refine ⟨trivial, ?_⟩; gi_at_call 20; refine CallsIn.mono (callsIn_wide.2 HP.out) ?_; rintro e wn ⟨⟨v, rfl⟩, hpn, hg⟩)
      go_roundw
      case rel =>
        exact ⟨k + 1, by omega, by go_num, hpn, HB.out.grown hg HB.out.size (fun j e => by cases e; omega), bl.kept hg (by simp; omega), bs.kept hg (by simp; omega), br.kept hg (by simp; omega), fun i hi => hg.cell (c i hi) (by have hb9 : b < w.heap.size := World.block_lt_of_cell? _ _ (hcell i (by omega)); simp; omega), Nat.le_trans hs hg.size⟩
      case measure => simp [intOf]; omega
    · obtain rfl : k = 64 := by omega
      gi_wp2_with (fail)
      refine ⟨trivial, (callsIn_wide.2 (pick_any stop 65 _ s0 s1 (by omega) (by omega))).mono ?_⟩
      rintro e w4 ⟨st, rfl, st0, st1, rfl⟩
      gi_wp2_with (refine ⟨trivial, ?_⟩; gi_at_call 24; refine (callsIn_wide.2 (all_in _ _)).mono ?_; rintro e w' ⟨rfl, rfl⟩)
      obtain ⟨T, hT⟩ : ∃ n, n = w4.heap.size := ⟨_, rfl⟩
      obtain ⟨W5, hW5⟩ : ∃ W5, W5 = ((w4.setCell ⟨S + 1, 0, none⟩ (.int .i64 st)).alloc (.cells #[.int .i64 0] 3)).alloc (.cells #[.pointer (some ⟨pp, 0, none⟩)] 24) := ⟨_, rfl⟩
      have sz0 : (w4.setCell ⟨S + 1, 0, none⟩ (.int .i64 st)).heap.size = T := by rw [hT]; simp [World.setCell]
      have hsz : W5.heap.size = T + 2 := by rw [hW5]; simp [sz0]
      have hST : S + 3 ≤ T := by omega
      have hppT : pp < T := by rw [hT]; exact World.block_lt_of_cell? _ _ hp.slice
      have hplT : pl < T := by rw [hT]; exact hp.lt
      have gr : w4.grownBy W5 (some (S + 1)) := by
        rw [hW5]
        exact G.trans (G.trans (G.set (World.grownBy.refl w4 _) 0 (.int .i64 st)) (World.grownBy_alloc _ _ _)) (World.grownBy_alloc _ _ _)
      have bn5 : Boxed W5 T 3 (.int .i64 0) := by
        rw [hW5]
        have h := Boxed.new (w4.setCell ⟨S + 1, 0, none⟩ (.int .i64 st)) 3 (.int .i64 0)
        rw [sz0] at h
        exact h.alloc _
      have hbs : W5.cell? ⟨T + 1, 0, none⟩ = some (.pointer (some ⟨pp, 0, none⟩)) := by
        rw [hW5]
        have h := (Boxed.new ((w4.setCell ⟨S + 1, 0, none⟩ (.int .i64 st)).alloc (.cells #[.int .i64 0] 3)) 24 (.pointer (some ⟨pp, 0, none⟩))).cell
        rw [World.size_alloc, sz0] at h
        exact h
      have bl5 : Boxed W5 S 31 (.slice (some ⟨b, off, none⟩) 64 cap) := bl.kept gr (by simp)
      have br5 : Boxed W5 (S + 1 + 1) 4 (.bool false) := br.kept gr (by simp)
      have bs5 : Boxed W5 (S + 1) 3 (.int .i64 st) := by rw [hW5]; exact ((bs.set _).alloc _).alloc _
      have hp5 : IsPool W5 pp pl (filled z 64) := hp.grown gr (by simp; omega) (by simp; omega)
      have hB5 : Below w.heap.size w W5 := HB.out.grown gr HB.out.size (fun j e => by cases e; omega)
      have hb9 : ∀ i, i < 64 → b < w.heap.size := fun i hi => World.block_lt_of_cell? _ _ (hcell i (by omega))
      have c5 : ∀ i, i < 64 → W5.cell? ⟨b, off + i, none⟩ = some (.int .i64 (z i)) := fun i hi => gr.cell (c i hi) (by have := hb9 i hi; simp; omega)
      rw [← hW5, ← hT]
      clear hW5 sz0 hT gr bl br bs hp HB c cl cs cr fs fr
      refine' range_by h1 (gf := 33) (lb := #[.pointer (some ⟨T + 1, 0, none⟩)]) rfl (enters_of Try.func33 (by kernel_rfl) rfl)
        (all_tells (12 - 1) (by omega) (T + 1) pp pl (filled z 64) W5 hp5 hbs) (fun h k => Keep.trans h k) (fun _ _ _ o' _ h hc => keep_b o' h hc) (fun _ => rfl)
        (fun pre V => InOrder pre ∧ (pre.length : Int) ≤ st ∧ Below w.heap.size w V ∧ Boxed V T 3 (.int .i64 (pre.length : Int)) ∧ Boxed V S 31 (.slice (some ⟨b, off, none⟩) 64 cap) ∧ Boxed V (S + 1) 3 (.int .i64 st) ∧ Boxed V (S + 1 + 1) 4 (.bool false) ∧ (∀ i, i < 64 → V.cell? ⟨b, off + i, none⟩ = some (.int .i64 (z i))))
        (fun c pre V => (c = .ret ∧ ¬ InOrder pre) ∨ (c = .exit 2 ∧ ∃ pre' x, pre = pre' ++ [x] ∧ (pre'.length : Int) = st ∧ Below w.heap.size w V ∧ Boxed V T 3 (.int .i64 st) ∧ Boxed V S 31 (.slice (some ⟨b, off, none⟩) 64 cap) ∧ Boxed V (S + 1) 3 (.int .i64 st) ∧ Boxed V (S + 1 + 1) 4 (.bool false)))
        (fun s A B row hs hg hr => ⟨hs.1, hs.2.1, hs.2.2.1.grown hg hs.2.2.1.size (fun k e => by have := (hr k e).1; omega), box_own hs.2.2.2.1 hg hr, box_own hs.2.2.2.2.1 hg hr, box_own hs.2.2.2.2.2.1 hg hr, box_own hs.2.2.2.2.2.2.1 hg hr, fun i hi => hg.cell (hs.2.2.2.2.2.2.2 i hi) (fun e => by have h1 := (hr _ e.symm).1; have h2 := hb9 i hi; simp only at h1; omega)⟩)
        (fun c s A B row hs hg hr => hs.imp id (fun h => by
          obtain ⟨a1, pre', x, a2, a3, a4, a5, a6, a7, a8⟩ := h
          exact ⟨a1, pre', x, a2, a3, a4.grown hg a4.size (fun k e => by have := (hr k e).1; omega), box_own a5 hg hr, box_own a6 hg hr, box_own a7 hg hr, box_own a8 hg hr⟩))
        ⟨InOrder.nil, st0, hB5, bn5, bl5, bs5, br5, c5⟩ _ ?assign ?body ?done ?stop
      case assign =>
        intro l x W K hK
        unfold encA
        gi_wp2
        exact hK
      case body =>
        rintro l pre x V ⟨ho, hst, hB, bn, bl, bs, br, c⟩ hlen
        obtain ⟨hxi, hxa⟩ := live_filled z 64 x
        have e1 : handleOf (at_ (filled z 64) x.1.val) x.1.val = (x.1.val : Int) + 1 := by rw [hxa]; simp [handleOf]
        have e2 : (at_ (filled z 64) x.1.val).x = z x.1.val := by rw [hxa]
        rw [e1, e2]
        clear e1 e2 hxa
        obtain ⟨i, hi⟩ : ∃ i, i = x.1.val := ⟨_, rfl⟩
        rw [← hi] at hxi
        rw [← hi]
        have HI : Hid _ := hi
        clear hi
        have cn := bn.cell
        have fn := bn.frozen
        have cl := bl.cell
        have cs := bs.cell
        have cr := br.cell
        have fr := br.frozen
        rw [filled_length] at hlen
        by_cases hq : (pre.length : Int) = st
        · subst hq
          gi_wp2
          exact ⟨(KeepsOthers.refl _).from _, Or.inr ⟨rfl, pre, x, rfl, rfl, hB, bn, bl, bs, br⟩⟩
        · have hb : ((pre.length : Int) == st) = false := beq_eq_false_iff_ne.2 hq
          have hlt2 : (pre.length : Int) < st := by omega
          clear hq hst
          by_cases h2 : i = pre.length
          · have ci := c i hxi
            subst h2
            gi_wp2
            refine ⟨(KeepsOthers.setCell _ _ _).from _, keep_grown (G.set (World.grownBy.refl V (some T)) 0 _) (fun r e => by cases e; omega), ho.snoc x HI.out.symm, ?_, hB.setCell (p := ⟨T, 0, none⟩) (by show w.heap.size ≤ T; omega) _, ?_, box_far bl (by show S ≠ T; omega) _, box_far bs (by show S + 1 ≠ T; omega) _, box_far br (by show S + 1 + 1 ≠ T; omega) _, fun i hi => ?_⟩
            · rw [List.length_append]; simp; omega
            · rw [List.length_append]; exact bn.set _
            · rw [World.cell?_setCell_other _ _ _ _ (fun e => by injection e with e1; have := hb9 i hi; omega)]
              exact c i hi
          · have hne : ((i : Int) + 1 != (pre.length : Int) + 1) = true := bne_iff_ne.2 (by omega)
            have hne' : ((i : Int) + 1 == (pre.length : Int) + 1) = false := beq_eq_false_iff_ne.2 (by omega)
            gi_wp2
            exact ⟨(KeepsOthers.setCell _ _ _).from _, Or.inl ⟨rfl, fun h => h2 (HI.out.trans h.last)⟩⟩
      case done =>
        rintro D ys V hD rfl ⟨ho, hst, hB, bn, bl, bs, br, c⟩ hK
        have hl' := lives_full z 64 (by omega)
        rw [hl'] at hst bn
        clear hl' ho c
        have cn := bn.cell
        have cl := bl.cell
        have cs := bs.cell
        have cr := br.cell
        have fr := br.frozen
        have hDS : S + 1 + 1 < D := by omega
        have fin : ∀ v : Value, (V.setCell ⟨S + 1 + 1, 0, none⟩ v).heap[D]? = some (.deferred (some [])) := fun v => (KeepsOthers.setCell _ _ _).same D _ hK rfl
        rcases Int.lt_or_eq_of_le hst with h | h
        · exfalso; omega
        · subst h
          gi_wp2
          refine ⟨by simp, .inl ⟨_, _, rfl, run_takeDeferred (fin _), ?_⟩⟩
          have b9 := ((br.set (.bool true)).kept (grownBy_putObj' _ D (.deferred none)) (by simp; omega)).cell
          refine ⟨.bool true, by simp [results, Try.results5, go_sem, b9], rfl, ?_⟩
          exact (hB.setCell (p := ⟨S + 1 + 1, 0, none⟩) (by show w.heap.size ≤ S + 1 + 1; omega) _).trans (belowK_b (w := w) (Nat.le_refl _) _ D _ _ (by omega) (fin _) rfl rfl)
      case stop =>
        rintro D c pre V hD ⟨mm, hmm, hpre⟩ hx hK
        rcases hx with ⟨rfl, hx⟩ | ⟨rfl, pre', x, a1, a2, hB, bn, bl, bs, br⟩
        · exact absurd (by rw [hpre]; exact (lives_filled z 64 (by omega) mm hmm).1) hx
        · have hl := (lives_filled z 64 (by omega) mm hmm).2
          rw [← hpre, a1, List.length_append] at hl
          have hlt3 : st < (64 : Nat) := by first | (simp at hl; done) | (simp at hl; omega)
          clear hl a1 a2 hpre
          have cn := bn.cell
          have cl := bl.cell
          have cs := bs.cell
          have cr := br.cell
          have fr := br.frozen
          have hDS : S + 1 + 1 < D := by omega
          have fin : ∀ v : Value, (V.setCell ⟨S + 1 + 1, 0, none⟩ v).heap[D]? = some (.deferred (some [])) := fun v => (KeepsOthers.setCell _ _ _).same D _ hK rfl
          gi_wp2
          refine ⟨by simp, .inl ⟨_, _, rfl, run_takeDeferred (fin _), ?_⟩⟩
          have b9 := ((br.set (.bool true)).kept (grownBy_putObj' _ D (.deferred none)) (by simp; omega)).cell
          refine ⟨.bool true, by simp [results, Try.results5, go_sem, b9], rfl, ?_⟩
          exact (hB.setCell (p := ⟨S + 1 + 1, 0, none⟩) (by show w.heap.size ≤ S + 1 + 1; omega) _).trans (belowK_b (w := w) (Nat.le_refl _) _ D _ _ (by omega) (fin _) rfl rfl)

attribute [local go_sem] Oper.semAt_some in
set_option maxRecDepth 100000 in
set_option maxHeartbeats 8000000 in
/-- At a list that is there. -/
theorem walk_gt (b off len cap : Nat) (z : Nat → Int) (stop : Int) (w : World) (hlc : len ≤ cap) (hgt9 : 64 < len) (hm : cap ≤ 9223372036854775807) (hcell : ∀ i, i < len → w.cell? ⟨b, off + i, none⟩ = some (.int .i64 (z i))) (s0 : -9223372036854775808 ≤ stop) (s1 : stop ≤ 9223372036854775807) :
    Calls Try.prog 5 #[.slice (some ⟨b, off, none⟩) len cap, .int .i64 stop] w fun e w' => e = .returned (.bool true) ∧ Below w.heap.size w w' := by
  refine (callsIn_wide (n := 12)).1 ?_
  have h1 : 1 ≤ 12 := by omega
  refine callsIn_of_wp_marks Try.func5 rfl trivial ?_ rfl
  simp only [Try.ntmps5, List.size_toArray, List.length_cons, List.length_nil, Nat.reduceAdd, Nat.reduceSub, Array.replicate_succ, Array.replicate_zero, List.push_toArray, List.append_toArray, List.nil_append, List.cons_append]
  gi_wp2_with (fail)
  refine ⟨trivial, (callsIn_wide.2 (awake_any _)).mono ?_⟩
  rintro e W1 ⟨rfl, hb1⟩
  have c0 : ∀ i, i < len → W1.cell? ⟨b, off + i, none⟩ = some (.int .i64 (z i)) := fun i hi => by
    have hlt : b < w.heap.size := World.block_lt_of_cell? _ _ (hcell i hi)
    rw [hb1.cell (by simp; omega), World.cell?_alloc_past _ _ _ (by simp; omega), World.cell?_alloc_past _ _ _ (by simp; omega), World.cell?_alloc_past _ _ _ hlt]
    exact hcell i hi
  have bl1 : Boxed W1 w.heap.size 31 (.slice (some ⟨b, off, none⟩) len cap) := (hb1.block _ (by first | (simp; done) | (simp; omega))).trans (((Boxed.new w 31 (.slice (some ⟨b, off, none⟩) len cap)).alloc _).alloc _)
  have bs1 : Boxed W1 (w.heap.size + 1) 3 (.int .i64 stop) := by
    have h := Boxed.new (w.alloc (.cells #[.slice (some ⟨b, off, none⟩) len cap] 31)) 3 (.int .i64 stop)
    rw [World.size_alloc] at h
    exact (hb1.block _ (by first | (simp; done) | (simp; omega))).trans (h.alloc _)
  have br1 : Boxed W1 (w.heap.size + 1 + 1) 4 (.bool false) := by
    have h := Boxed.new ((w.alloc (.cells #[.slice (some ⟨b, off, none⟩) len cap] 31)).alloc (.cells #[.int .i64 stop] 3)) 4 (.bool false)
    rw [World.size_alloc, World.size_alloc] at h
    exact (hb1.block _ (by first | (simp; done) | (simp; omega))).trans h
  have hB1 : Below w.heap.size w W1 := ((((Below.refl _ w).alloc (Nat.le_refl _) _).alloc (by simp) _).alloc (by simp; omega) _).trans (hb1.mono (by simp; omega))
  have hs1 := hb1.size
  simp only [World.size_alloc] at hs1
  obtain ⟨S, hS⟩ : ∃ n, n = w.heap.size := ⟨_, rfl⟩
  rw [← hS] at bl1 bs1 br1
  have hSl : w.heap.size ≤ S := by omega
  have hSr : S ≤ w.heap.size := by omega
  have hs2 : S + 3 ≤ W1.heap.size := by omega
  rw [← hS]
  clear hS hb1 hs1
  gi_wp2_with (fail)
  have N := new_yes 64 W1 (by omega) (by omega)
  refine ⟨trivial, (callsIn_wide.2 N).mono ?_⟩
  clear N
  rintro e W2 ⟨pp, pl, rfl, hpl, hpp, hp, hb2⟩
  rw [← filled_zero z] at hp
  have c0 : ∀ i, i < len → W2.cell? ⟨b, off + i, none⟩ = some (.int .i64 (z i)) := fun i hi => (hb2.cell (World.block_lt_of_cell? _ _ (c0 i hi))).trans (c0 i hi)
  have bl2 : Boxed W2 S 31 (.slice (some ⟨b, off, none⟩) len cap) := (hb2.block _ (by omega)).trans bl1
  have bs2 : Boxed W2 (S + 1) 3 (.int .i64 stop) := (hb2.block _ (by omega)).trans bs1
  have br2 : Boxed W2 (S + 1 + 1) 4 (.bool false) := (hb2.block _ (by omega)).trans br1
  have hB2 : Below w.heap.size w W2 := hB1.trans (hb2.mono hB1.size)
  have hs3 := hb2.size
  clear hb2 bl1 bs1 br1 hB1
  have cl := bl2.cell
  have fl := bl2.frozen
  have cs := bs2.cell
  have cr := br2.cell
  have HB : Hid _ := hB2
  clear hB2
  gi_wp2_with (fail)
  obtain ⟨W3, hW3⟩ : ∃ W3, W3 = W2.setCell ⟨S, 0, none⟩ (.slice (some ⟨b, off, none⟩) 64 cap) := ⟨_, rfl⟩
  have bl3 : Boxed W3 S 31 (.slice (some ⟨b, off, none⟩) 64 cap) := by rw [hW3]; exact bl2.set _
  have bs3 : Boxed W3 (S + 1) 3 (.int .i64 stop) := by rw [hW3]; exact box_far bs2 (by show S + 1 ≠ S; omega) _
  have br3 : Boxed W3 (S + 1 + 1) 4 (.bool false) := by rw [hW3]; exact box_far br2 (by show S + 1 + 1 ≠ S; omega) _
  have hp3 : IsPool W3 pp pl (filled z 0) := by rw [hW3]; exact hp.far (by show pl ≠ S; omega) (by show pp ≠ S; omega) _
  have hB3 : Hid (Below w.heap.size w W3) := by show Below _ _ _; rw [hW3]; exact HB.out.setCell (p := ⟨S, 0, none⟩) hSl _
  have c3 : ∀ i, i < 64 → W3.cell? ⟨b, off + i, none⟩ = some (.int .i64 (z i)) := fun i hi => by
    have hlt : b < w.heap.size := World.block_lt_of_cell? _ _ (hcell i (by omega))
    rw [hW3, World.cell?_setCell_other _ _ _ _ (fun e => by injection e with e1; omega)]
    exact c0 i (by omega)
  have hs4 : W3.heap.size = W2.heap.size := by rw [hW3]; simp [World.setCell]
  have hs5 : S + 3 ≤ W3.heap.size := by omega
  rw [← hW3]
  clear hW3 bl2 bs2 br2 hp HB c0 cl fl cs cr hs4
  gi_loopw [8] (fun i wr => ∃ k : Nat, k ≤ 64 ∧ i = .int .i64 k ∧ IsPool wr pp pl (filled z k) ∧ Hid (Below w.heap.size w wr) ∧ Boxed wr S 31 (.slice (some ⟨b, off, none⟩) 64 cap) ∧ Boxed wr (S + 1) 3 (.int .i64 stop) ∧ Boxed wr (S + 1 + 1) 4 (.bool false) ∧ (∀ i, i < 64 → wr.cell? ⟨b, off + i, none⟩ = some (.int .i64 (z i))) ∧ S + 3 ≤ wr.heap.size) (fun i _ => 64 - (intOf i).toNat)
  case atStart => exact ⟨0, Nat.zero_le _, rfl, hp3, hB3, bl3, bs3, br3, c3, hs5⟩
  case round =>
    clear hp3 hB3 bl3 bs3 br3 c3 hs5
    obtain ⟨k, hk, rfl, hp, HB, bl, bs, br, c, hs⟩ := hrel
    have cl := bl.cell
    have cs := bs.cell
    have cr := br.cell
    have fs := bs.frozen
    have fr := br.frozen
    by_cases hlt : k < 64
    · have ck := c k hlt
      have hk64 : k < 64 := by omega
      have P := put_next pp pl z k wr hk64 hp
      have HP : Hid _ := P
      clear P
      gi_wp2_with (refine ⟨trivial, ?_⟩; gi_at_call 20; refine CallsIn.mono (callsIn_wide.2 HP.out) ?_; rintro e wn ⟨⟨v, rfl⟩, hpn, hg⟩)
      go_roundw
      case rel =>
        exact ⟨k + 1, by omega, by go_num, hpn, HB.out.grown hg HB.out.size (fun j e => by cases e; omega), bl.kept hg (by simp; omega), bs.kept hg (by simp; omega), br.kept hg (by simp; omega), fun i hi => hg.cell (c i hi) (by have hb9 : b < w.heap.size := World.block_lt_of_cell? _ _ (hcell i (by omega)); simp; omega), Nat.le_trans hs hg.size⟩
      case measure => simp [intOf]; omega
    · obtain rfl : k = 64 := by omega
      gi_wp2_with (fail)
      refine ⟨trivial, (callsIn_wide.2 (pick_any stop 65 _ s0 s1 (by omega) (by omega))).mono ?_⟩
      rintro e w4 ⟨st, rfl, st0, st1, rfl⟩
      gi_wp2_with (refine ⟨trivial, ?_⟩; gi_at_call 24; refine (callsIn_wide.2 (all_in _ _)).mono ?_; rintro e w' ⟨rfl, rfl⟩)
      obtain ⟨T, hT⟩ : ∃ n, n = w4.heap.size := ⟨_, rfl⟩
      obtain ⟨W5, hW5⟩ : ∃ W5, W5 = ((w4.setCell ⟨S + 1, 0, none⟩ (.int .i64 st)).alloc (.cells #[.int .i64 0] 3)).alloc (.cells #[.pointer (some ⟨pp, 0, none⟩)] 24) := ⟨_, rfl⟩
      have sz0 : (w4.setCell ⟨S + 1, 0, none⟩ (.int .i64 st)).heap.size = T := by rw [hT]; simp [World.setCell]
      have hsz : W5.heap.size = T + 2 := by rw [hW5]; simp [sz0]
      have hST : S + 3 ≤ T := by omega
      have hppT : pp < T := by rw [hT]; exact World.block_lt_of_cell? _ _ hp.slice
      have hplT : pl < T := by rw [hT]; exact hp.lt
      have gr : w4.grownBy W5 (some (S + 1)) := by
        rw [hW5]
        exact G.trans (G.trans (G.set (World.grownBy.refl w4 _) 0 (.int .i64 st)) (World.grownBy_alloc _ _ _)) (World.grownBy_alloc _ _ _)
      have bn5 : Boxed W5 T 3 (.int .i64 0) := by
        rw [hW5]
        have h := Boxed.new (w4.setCell ⟨S + 1, 0, none⟩ (.int .i64 st)) 3 (.int .i64 0)
        rw [sz0] at h
        exact h.alloc _
      have hbs : W5.cell? ⟨T + 1, 0, none⟩ = some (.pointer (some ⟨pp, 0, none⟩)) := by
        rw [hW5]
        have h := (Boxed.new ((w4.setCell ⟨S + 1, 0, none⟩ (.int .i64 st)).alloc (.cells #[.int .i64 0] 3)) 24 (.pointer (some ⟨pp, 0, none⟩))).cell
        rw [World.size_alloc, sz0] at h
        exact h
      have bl5 : Boxed W5 S 31 (.slice (some ⟨b, off, none⟩) 64 cap) := bl.kept gr (by simp)
      have br5 : Boxed W5 (S + 1 + 1) 4 (.bool false) := br.kept gr (by simp)
      have bs5 : Boxed W5 (S + 1) 3 (.int .i64 st) := by rw [hW5]; exact ((bs.set _).alloc _).alloc _
      have hp5 : IsPool W5 pp pl (filled z 64) := hp.grown gr (by simp; omega) (by simp; omega)
      have hB5 : Below w.heap.size w W5 := HB.out.grown gr HB.out.size (fun j e => by cases e; omega)
      have hb9 : ∀ i, i < 64 → b < w.heap.size := fun i hi => World.block_lt_of_cell? _ _ (hcell i (by omega))
      have c5 : ∀ i, i < 64 → W5.cell? ⟨b, off + i, none⟩ = some (.int .i64 (z i)) := fun i hi => gr.cell (c i hi) (by have := hb9 i hi; simp; omega)
      rw [← hW5, ← hT]
      clear hW5 sz0 hT gr bl br bs hp HB c cl cs cr fs fr
      refine' range_by h1 (gf := 33) (lb := #[.pointer (some ⟨T + 1, 0, none⟩)]) rfl (enters_of Try.func33 (by kernel_rfl) rfl)
        (all_tells (12 - 1) (by omega) (T + 1) pp pl (filled z 64) W5 hp5 hbs) (fun h k => Keep.trans h k) (fun _ _ _ o' _ h hc => keep_b o' h hc) (fun _ => rfl)
        (fun pre V => InOrder pre ∧ (pre.length : Int) ≤ st ∧ Below w.heap.size w V ∧ Boxed V T 3 (.int .i64 (pre.length : Int)) ∧ Boxed V S 31 (.slice (some ⟨b, off, none⟩) 64 cap) ∧ Boxed V (S + 1) 3 (.int .i64 st) ∧ Boxed V (S + 1 + 1) 4 (.bool false) ∧ (∀ i, i < 64 → V.cell? ⟨b, off + i, none⟩ = some (.int .i64 (z i))))
        (fun c pre V => (c = .ret ∧ ¬ InOrder pre) ∨ (c = .exit 2 ∧ ∃ pre' x, pre = pre' ++ [x] ∧ (pre'.length : Int) = st ∧ Below w.heap.size w V ∧ Boxed V T 3 (.int .i64 st) ∧ Boxed V S 31 (.slice (some ⟨b, off, none⟩) 64 cap) ∧ Boxed V (S + 1) 3 (.int .i64 st) ∧ Boxed V (S + 1 + 1) 4 (.bool false)))
        (fun s A B row hs hg hr => ⟨hs.1, hs.2.1, hs.2.2.1.grown hg hs.2.2.1.size (fun k e => by have := (hr k e).1; omega), box_own hs.2.2.2.1 hg hr, box_own hs.2.2.2.2.1 hg hr, box_own hs.2.2.2.2.2.1 hg hr, box_own hs.2.2.2.2.2.2.1 hg hr, fun i hi => hg.cell (hs.2.2.2.2.2.2.2 i hi) (fun e => by have h1 := (hr _ e.symm).1; have h2 := hb9 i hi; simp only at h1; omega)⟩)
        (fun c s A B row hs hg hr => hs.imp id (fun h => by
          obtain ⟨a1, pre', x, a2, a3, a4, a5, a6, a7, a8⟩ := h
          exact ⟨a1, pre', x, a2, a3, a4.grown hg a4.size (fun k e => by have := (hr k e).1; omega), box_own a5 hg hr, box_own a6 hg hr, box_own a7 hg hr, box_own a8 hg hr⟩))
        ⟨InOrder.nil, st0, hB5, bn5, bl5, bs5, br5, c5⟩ _ ?assign ?body ?done ?stop
      case assign =>
        intro l x W K hK
        unfold encA
        gi_wp2
        exact hK
      case body =>
        rintro l pre x V ⟨ho, hst, hB, bn, bl, bs, br, c⟩ hlen
        obtain ⟨hxi, hxa⟩ := live_filled z 64 x
        have e1 : handleOf (at_ (filled z 64) x.1.val) x.1.val = (x.1.val : Int) + 1 := by rw [hxa]; simp [handleOf]
        have e2 : (at_ (filled z 64) x.1.val).x = z x.1.val := by rw [hxa]
        rw [e1, e2]
        clear e1 e2 hxa
        obtain ⟨i, hi⟩ : ∃ i, i = x.1.val := ⟨_, rfl⟩
        rw [← hi] at hxi
        rw [← hi]
        have HI : Hid _ := hi
        clear hi
        have cn := bn.cell
        have fn := bn.frozen
        have cl := bl.cell
        have cs := bs.cell
        have cr := br.cell
        have fr := br.frozen
        rw [filled_length] at hlen
        by_cases hq : (pre.length : Int) = st
        · subst hq
          gi_wp2
          exact ⟨(KeepsOthers.refl _).from _, Or.inr ⟨rfl, pre, x, rfl, rfl, hB, bn, bl, bs, br⟩⟩
        · have hb : ((pre.length : Int) == st) = false := beq_eq_false_iff_ne.2 hq
          have hlt2 : (pre.length : Int) < st := by omega
          clear hq hst
          by_cases h2 : i = pre.length
          · have ci := c i hxi
            subst h2
            gi_wp2
            refine ⟨(KeepsOthers.setCell _ _ _).from _, keep_grown (G.set (World.grownBy.refl V (some T)) 0 _) (fun r e => by cases e; omega), ho.snoc x HI.out.symm, ?_, hB.setCell (p := ⟨T, 0, none⟩) (by show w.heap.size ≤ T; omega) _, ?_, box_far bl (by show S ≠ T; omega) _, box_far bs (by show S + 1 ≠ T; omega) _, box_far br (by show S + 1 + 1 ≠ T; omega) _, fun i hi => ?_⟩
            · rw [List.length_append]; simp; omega
            · rw [List.length_append]; exact bn.set _
            · rw [World.cell?_setCell_other _ _ _ _ (fun e => by injection e with e1; have := hb9 i hi; omega)]
              exact c i hi
          · have hne : ((i : Int) + 1 != (pre.length : Int) + 1) = true := bne_iff_ne.2 (by omega)
            have hne' : ((i : Int) + 1 == (pre.length : Int) + 1) = false := beq_eq_false_iff_ne.2 (by omega)
            gi_wp2
            exact ⟨(KeepsOthers.setCell _ _ _).from _, Or.inl ⟨rfl, fun h => h2 (HI.out.trans h.last)⟩⟩
      case done =>
        rintro D ys V hD rfl ⟨ho, hst, hB, bn, bl, bs, br, c⟩ hK
        have hl' := lives_full z 64 (by omega)
        rw [hl'] at hst bn
        clear hl' ho c
        have cn := bn.cell
        have cl := bl.cell
        have cs := bs.cell
        have cr := br.cell
        have fr := br.frozen
        have hDS : S + 1 + 1 < D := by omega
        have fin : ∀ v : Value, (V.setCell ⟨S + 1 + 1, 0, none⟩ v).heap[D]? = some (.deferred (some [])) := fun v => (KeepsOthers.setCell _ _ _).same D _ hK rfl
        rcases Int.lt_or_eq_of_le hst with h | h
        · exfalso; omega
        · subst h
          gi_wp2
          refine ⟨by simp, .inl ⟨_, _, rfl, run_takeDeferred (fin _), ?_⟩⟩
          have b9 := ((br.set (.bool true)).kept (grownBy_putObj' _ D (.deferred none)) (by simp; omega)).cell
          refine ⟨.bool true, by simp [results, Try.results5, go_sem, b9], rfl, ?_⟩
          exact (hB.setCell (p := ⟨S + 1 + 1, 0, none⟩) (by show w.heap.size ≤ S + 1 + 1; omega) _).trans (belowK_b (w := w) (Nat.le_refl _) _ D _ _ (by omega) (fin _) rfl rfl)
      case stop =>
        rintro D c pre V hD ⟨mm, hmm, hpre⟩ hx hK
        rcases hx with ⟨rfl, hx⟩ | ⟨rfl, pre', x, a1, a2, hB, bn, bl, bs, br⟩
        · exact absurd (by rw [hpre]; exact (lives_filled z 64 (by omega) mm hmm).1) hx
        · have hl := (lives_filled z 64 (by omega) mm hmm).2
          rw [← hpre, a1, List.length_append] at hl
          have hlt3 : st < (64 : Nat) := by first | (simp at hl; done) | (simp at hl; omega)
          clear hl a1 a2 hpre
          have cn := bn.cell
          have cl := bl.cell
          have cs := bs.cell
          have cr := br.cell
          have fr := br.frozen
          have hDS : S + 1 + 1 < D := by omega
          have fin : ∀ v : Value, (V.setCell ⟨S + 1 + 1, 0, none⟩ v).heap[D]? = some (.deferred (some [])) := fun v => (KeepsOthers.setCell _ _ _).same D _ hK rfl
          gi_wp2
          refine ⟨by simp, .inl ⟨_, _, rfl, run_takeDeferred (fin _), ?_⟩⟩
          have b9 := ((br.set (.bool true)).kept (grownBy_putObj' _ D (.deferred none)) (by simp; omega)).cell
          refine ⟨.bool true, by simp [results, Try.results5, go_sem, b9], rfl, ?_⟩
          exact (hB.setCell (p := ⟨S + 1 + 1, 0, none⟩) (by show w.heap.size ≤ S + 1 + 1; omega) _).trans (belowK_b (w := w) (Nat.le_refl _) _ D _ _ (by omega) (fin _) rfl rfl)

attribute [local go_sem] Oper.semAt_some in
set_option maxRecDepth 100000 in
set_option maxHeartbeats 8000000 in
/-- At a list that is there. -/
theorem walk_nil (b off   : Nat) (z : Nat → Int) (stop : Int) (w : World) (hlc : 0 ≤ 0)   (hcell : ∀ i, i < 0 → w.cell? ⟨b, off + i, none⟩ = some (.int .i64 (z i))) (s0 : -9223372036854775808 ≤ stop) (s1 : stop ≤ 9223372036854775807) :
    Calls Try.prog 5 #[.slice none 0 0, .int .i64 stop] w fun e w' => e = .returned (.bool true) ∧ Below w.heap.size w w' := by
  refine (callsIn_wide (n := 12)).1 ?_
  have h1 : 1 ≤ 12 := by omega
  refine callsIn_of_wp_marks Try.func5 rfl trivial ?_ rfl
  simp only [Try.ntmps5, List.size_toArray, List.length_cons, List.length_nil, Nat.reduceAdd, Nat.reduceSub, Array.replicate_succ, Array.replicate_zero, List.push_toArray, List.append_toArray, List.nil_append, List.cons_append]
  gi_wp2_with (fail)
  refine ⟨trivial, (callsIn_wide.2 (awake_any _)).mono ?_⟩
  rintro e W1 ⟨rfl, hb1⟩
  have c0 : ∀ i, i < 0 → W1.cell? ⟨b, off + i, none⟩ = some (.int .i64 (z i)) := fun i hi => by
    have hlt : b < w.heap.size := World.block_lt_of_cell? _ _ (hcell i hi)
    rw [hb1.cell (by simp; omega), World.cell?_alloc_past _ _ _ (by simp; omega), World.cell?_alloc_past _ _ _ (by simp; omega), World.cell?_alloc_past _ _ _ hlt]
    exact hcell i hi
  have bl1 : Boxed W1 w.heap.size 31 (.slice none 0 0) := (hb1.block _ (by first | (simp; done) | (simp; omega))).trans (((Boxed.new w 31 (.slice none 0 0)).alloc _).alloc _)
  have bs1 : Boxed W1 (w.heap.size + 1) 3 (.int .i64 stop) := by
    have h := Boxed.new (w.alloc (.cells #[.slice none 0 0] 31)) 3 (.int .i64 stop)
    rw [World.size_alloc] at h
    exact (hb1.block _ (by first | (simp; done) | (simp; omega))).trans (h.alloc _)
  have br1 : Boxed W1 (w.heap.size + 1 + 1) 4 (.bool false) := by
    have h := Boxed.new ((w.alloc (.cells #[.slice none 0 0] 31)).alloc (.cells #[.int .i64 stop] 3)) 4 (.bool false)
    rw [World.size_alloc, World.size_alloc] at h
    exact (hb1.block _ (by first | (simp; done) | (simp; omega))).trans h
  have hB1 : Below w.heap.size w W1 := ((((Below.refl _ w).alloc (Nat.le_refl _) _).alloc (by simp) _).alloc (by simp; omega) _).trans (hb1.mono (by simp; omega))
  have hs1 := hb1.size
  simp only [World.size_alloc] at hs1
  obtain ⟨S, hS⟩ : ∃ n, n = w.heap.size := ⟨_, rfl⟩
  rw [← hS] at bl1 bs1 br1
  have hSl : w.heap.size ≤ S := by omega
  have hSr : S ≤ w.heap.size := by omega
  have hs2 : S + 3 ≤ W1.heap.size := by omega
  rw [← hS]
  clear hS hb1 hs1
  gi_wp2_with (fail)
  have N := new_yes 64 W1 (by omega) (by omega)
  refine ⟨trivial, (callsIn_wide.2 N).mono ?_⟩
  clear N
  rintro e W2 ⟨pp, pl, rfl, hpl, hpp, hp, hb2⟩
  rw [← filled_zero z] at hp
  have c0 : ∀ i, i < 0 → W2.cell? ⟨b, off + i, none⟩ = some (.int .i64 (z i)) := fun i hi => (hb2.cell (World.block_lt_of_cell? _ _ (c0 i hi))).trans (c0 i hi)
  have bl2 : Boxed W2 S 31 (.slice none 0 0) := (hb2.block _ (by omega)).trans bl1
  have bs2 : Boxed W2 (S + 1) 3 (.int .i64 stop) := (hb2.block _ (by omega)).trans bs1
  have br2 : Boxed W2 (S + 1 + 1) 4 (.bool false) := (hb2.block _ (by omega)).trans br1
  have hB2 : Below w.heap.size w W2 := hB1.trans (hb2.mono hB1.size)
  have hs3 := hb2.size
  clear hb2 bl1 bs1 br1 hB1
  have cl := bl2.cell
  have fl := bl2.frozen
  have cs := bs2.cell
  have cr := br2.cell
  have HB : Hid _ := hB2
  clear hB2
  gi_wp2_with (fail)
  obtain ⟨W3, hW3⟩ : ∃ W3, W3 = W2.setCell ⟨S, 0, none⟩ (.slice none 0 0) := ⟨_, rfl⟩
  have bl3 : Boxed W3 S 31 (.slice none 0 0) := by rw [hW3]; exact bl2.set _
  have bs3 : Boxed W3 (S + 1) 3 (.int .i64 stop) := by rw [hW3]; exact box_far bs2 (by show S + 1 ≠ S; omega) _
  have br3 : Boxed W3 (S + 1 + 1) 4 (.bool false) := by rw [hW3]; exact box_far br2 (by show S + 1 + 1 ≠ S; omega) _
  have hp3 : IsPool W3 pp pl (filled z 0) := by rw [hW3]; exact hp.far (by show pl ≠ S; omega) (by show pp ≠ S; omega) _
  have hB3 : Hid (Below w.heap.size w W3) := by show Below _ _ _; rw [hW3]; exact HB.out.setCell (p := ⟨S, 0, none⟩) hSl _
  have c3 : ∀ i, i < 0 → W3.cell? ⟨b, off + i, none⟩ = some (.int .i64 (z i)) := fun i hi => by
    have hlt : b < w.heap.size := World.block_lt_of_cell? _ _ (hcell i (by omega))
    rw [hW3, World.cell?_setCell_other _ _ _ _ (fun e => by injection e with e1; omega)]
    exact c0 i (by omega)
  have hs4 : W3.heap.size = W2.heap.size := by rw [hW3]; simp [World.setCell]
  have hs5 : S + 3 ≤ W3.heap.size := by omega
  rw [← hW3]
  clear hW3 bl2 bs2 br2 hp HB c0 cl fl cs cr hs4
  gi_loopw [8] (fun i wr => ∃ k : Nat, k ≤ 0 ∧ i = .int .i64 k ∧ IsPool wr pp pl (filled z k) ∧ Hid (Below w.heap.size w wr) ∧ Boxed wr S 31 (.slice none 0 0) ∧ Boxed wr (S + 1) 3 (.int .i64 stop) ∧ Boxed wr (S + 1 + 1) 4 (.bool false) ∧ (∀ i, i < 0 → wr.cell? ⟨b, off + i, none⟩ = some (.int .i64 (z i))) ∧ S + 3 ≤ wr.heap.size) (fun i _ => 0 - (intOf i).toNat)
  case atStart => exact ⟨0, Nat.zero_le _, rfl, hp3, hB3, bl3, bs3, br3, c3, hs5⟩
  case round =>
    clear hp3 hB3 bl3 bs3 br3 c3 hs5
    obtain ⟨k, hk, rfl, hp, HB, bl, bs, br, c, hs⟩ := hrel
    have cl := bl.cell
    have cs := bs.cell
    have cr := br.cell
    have fs := bs.frozen
    have fr := br.frozen
    by_cases hlt : k < 0
    · exact absurd hlt (by omega)
    · obtain rfl : k = 0 := by omega
      gi_wp2_with (fail)
      refine ⟨trivial, (callsIn_wide.2 (pick_any stop 65 _ s0 s1 (by omega) (by omega))).mono ?_⟩
      rintro e w4 ⟨st, rfl, st0, st1, rfl⟩
      gi_wp2_with (refine ⟨trivial, ?_⟩; gi_at_call 24; refine (callsIn_wide.2 (all_in _ _)).mono ?_; rintro e w' ⟨rfl, rfl⟩)
      obtain ⟨T, hT⟩ : ∃ n, n = w4.heap.size := ⟨_, rfl⟩
      obtain ⟨W5, hW5⟩ : ∃ W5, W5 = ((w4.setCell ⟨S + 1, 0, none⟩ (.int .i64 st)).alloc (.cells #[.int .i64 0] 3)).alloc (.cells #[.pointer (some ⟨pp, 0, none⟩)] 24) := ⟨_, rfl⟩
      have sz0 : (w4.setCell ⟨S + 1, 0, none⟩ (.int .i64 st)).heap.size = T := by rw [hT]; simp [World.setCell]
      have hsz : W5.heap.size = T + 2 := by rw [hW5]; simp [sz0]
      have hST : S + 3 ≤ T := by omega
      have hppT : pp < T := by rw [hT]; exact World.block_lt_of_cell? _ _ hp.slice
      have hplT : pl < T := by rw [hT]; exact hp.lt
      have gr : w4.grownBy W5 (some (S + 1)) := by
        rw [hW5]
        exact G.trans (G.trans (G.set (World.grownBy.refl w4 _) 0 (.int .i64 st)) (World.grownBy_alloc _ _ _)) (World.grownBy_alloc _ _ _)
      have bn5 : Boxed W5 T 3 (.int .i64 0) := by
        rw [hW5]
        have h := Boxed.new (w4.setCell ⟨S + 1, 0, none⟩ (.int .i64 st)) 3 (.int .i64 0)
        rw [sz0] at h
        exact h.alloc _
      have hbs : W5.cell? ⟨T + 1, 0, none⟩ = some (.pointer (some ⟨pp, 0, none⟩)) := by
        rw [hW5]
        have h := (Boxed.new ((w4.setCell ⟨S + 1, 0, none⟩ (.int .i64 st)).alloc (.cells #[.int .i64 0] 3)) 24 (.pointer (some ⟨pp, 0, none⟩))).cell
        rw [World.size_alloc, sz0] at h
        exact h
      have bl5 : Boxed W5 S 31 (.slice none 0 0) := bl.kept gr (by simp)
      have br5 : Boxed W5 (S + 1 + 1) 4 (.bool false) := br.kept gr (by simp)
      have bs5 : Boxed W5 (S + 1) 3 (.int .i64 st) := by rw [hW5]; exact ((bs.set _).alloc _).alloc _
      have hp5 : IsPool W5 pp pl (filled z 0) := hp.grown gr (by simp; omega) (by simp; omega)
      have hB5 : Below w.heap.size w W5 := HB.out.grown gr HB.out.size (fun j e => by cases e; omega)
      have hb9 : ∀ i, i < 0 → b < w.heap.size := fun i hi => World.block_lt_of_cell? _ _ (hcell i (by omega))
      have c5 : ∀ i, i < 0 → W5.cell? ⟨b, off + i, none⟩ = some (.int .i64 (z i)) := fun i hi => gr.cell (c i hi) (by have := hb9 i hi; simp; omega)
      rw [← hW5, ← hT]
      clear hW5 sz0 hT gr bl br bs hp HB c cl cs cr fs fr
      refine' range_by h1 (gf := 33) (lb := #[.pointer (some ⟨T + 1, 0, none⟩)]) rfl (enters_of Try.func33 (by kernel_rfl) rfl)
        (all_tells (12 - 1) (by omega) (T + 1) pp pl (filled z 0) W5 hp5 hbs) (fun h k => Keep.trans h k) (fun _ _ _ o' _ h hc => keep_b o' h hc) (fun _ => rfl)
        (fun pre V => InOrder pre ∧ (pre.length : Int) ≤ st ∧ Below w.heap.size w V ∧ Boxed V T 3 (.int .i64 (pre.length : Int)) ∧ Boxed V S 31 (.slice none 0 0) ∧ Boxed V (S + 1) 3 (.int .i64 st) ∧ Boxed V (S + 1 + 1) 4 (.bool false) ∧ (∀ i, i < 0 → V.cell? ⟨b, off + i, none⟩ = some (.int .i64 (z i))))
        (fun c pre V => (c = .ret ∧ ¬ InOrder pre) ∨ (c = .exit 2 ∧ ∃ pre' x, pre = pre' ++ [x] ∧ (pre'.length : Int) = st ∧ Below w.heap.size w V ∧ Boxed V T 3 (.int .i64 st) ∧ Boxed V S 31 (.slice none 0 0) ∧ Boxed V (S + 1) 3 (.int .i64 st) ∧ Boxed V (S + 1 + 1) 4 (.bool false)))
        (fun s A B row hs hg hr => ⟨hs.1, hs.2.1, hs.2.2.1.grown hg hs.2.2.1.size (fun k e => by have := (hr k e).1; omega), box_own hs.2.2.2.1 hg hr, box_own hs.2.2.2.2.1 hg hr, box_own hs.2.2.2.2.2.1 hg hr, box_own hs.2.2.2.2.2.2.1 hg hr, fun i hi => hg.cell (hs.2.2.2.2.2.2.2 i hi) (fun e => by have h1 := (hr _ e.symm).1; have h2 := hb9 i hi; simp only at h1; omega)⟩)
        (fun c s A B row hs hg hr => hs.imp id (fun h => by
          obtain ⟨a1, pre', x, a2, a3, a4, a5, a6, a7, a8⟩ := h
          exact ⟨a1, pre', x, a2, a3, a4.grown hg a4.size (fun k e => by have := (hr k e).1; omega), box_own a5 hg hr, box_own a6 hg hr, box_own a7 hg hr, box_own a8 hg hr⟩))
        ⟨InOrder.nil, st0, hB5, bn5, bl5, bs5, br5, c5⟩ _ ?assign ?body ?done ?stop
      case assign =>
        intro l x W K hK
        unfold encA
        gi_wp2
        exact hK
      case body =>
        rintro l pre x V ⟨ho, hst, hB, bn, bl, bs, br, c⟩ hlen
        exact absurd (live_filled z 0 x).1 (by omega)
      case done =>
        rintro D ys V hD rfl ⟨ho, hst, hB, bn, bl, bs, br, c⟩ hK
        have hl' := lives_full z 0 (by omega)
        rw [hl'] at hst bn
        clear hl' ho c
        have cn := bn.cell
        have cl := bl.cell
        have cs := bs.cell
        have cr := br.cell
        have fr := br.frozen
        have hDS : S + 1 + 1 < D := by omega
        have fin : ∀ v : Value, (V.setCell ⟨S + 1 + 1, 0, none⟩ v).heap[D]? = some (.deferred (some [])) := fun v => (KeepsOthers.setCell _ _ _).same D _ hK rfl
        rcases Int.lt_or_eq_of_le hst with h | h
        · gi_wp2
          refine ⟨by simp, .inl ⟨_, _, rfl, run_takeDeferred (fin _), ?_⟩⟩
          have b9 := ((br.set (.bool true)).kept (grownBy_putObj' _ D (.deferred none)) (by simp; omega)).cell
          refine ⟨.bool true, by simp [results, Try.results5, go_sem, b9], rfl, ?_⟩
          exact (hB.setCell (p := ⟨S + 1 + 1, 0, none⟩) (by show w.heap.size ≤ S + 1 + 1; omega) _).trans (belowK_b (w := w) (Nat.le_refl _) _ D _ _ (by omega) (fin _) rfl rfl)
        · subst h
          gi_wp2
          refine ⟨by simp, .inl ⟨_, _, rfl, run_takeDeferred (fin _), ?_⟩⟩
          have b9 := ((br.set (.bool true)).kept (grownBy_putObj' _ D (.deferred none)) (by simp; omega)).cell
          refine ⟨.bool true, by simp [results, Try.results5, go_sem, b9], rfl, ?_⟩
          exact (hB.setCell (p := ⟨S + 1 + 1, 0, none⟩) (by show w.heap.size ≤ S + 1 + 1; omega) _).trans (belowK_b (w := w) (Nat.le_refl _) _ D _ _ (by omega) (fin _) rfl rfl)
      case stop =>
        rintro D c pre V hD ⟨mm, hmm, hpre⟩ hx hK
        rcases hx with ⟨rfl, hx⟩ | ⟨rfl, pre', x, a1, a2, hB, bn, bl, bs, br⟩
        · exact absurd (by rw [hpre]; exact (lives_filled z 0 (by omega) mm hmm).1) hx
        · have hl := (lives_filled z 0 (by omega) mm hmm).2
          rw [← hpre, a1, List.length_append] at hl
          have hlt3 : st < (0 : Nat) := by first | (simp at hl; done) | (simp at hl; omega)
          exfalso
          omega

attribute [local go_sem] Oper.semAt_some in
set_option maxRecDepth 100000 in
set_option maxHeartbeats 8000000 in
/-- At a list that is there. -/
theorem walk_emp (b off   : Nat) (spot : Option Nat) (z : Nat → Int) (stop : Int) (w : World) (hlc : 0 ≤ 0)   (hcell : ∀ i, i < 0 → w.cell? ⟨b, off + i, none⟩ = some (.int .i64 (z i))) (s0 : -9223372036854775808 ≤ stop) (s1 : stop ≤ 9223372036854775807) :
    Calls Try.prog 5 #[.slice (some ⟨b, off, spot⟩) 0 0, .int .i64 stop] w fun e w' => e = .returned (.bool true) ∧ Below w.heap.size w w' := by
  refine (callsIn_wide (n := 12)).1 ?_
  have h1 : 1 ≤ 12 := by omega
  refine callsIn_of_wp_marks Try.func5 rfl trivial ?_ rfl
  simp only [Try.ntmps5, List.size_toArray, List.length_cons, List.length_nil, Nat.reduceAdd, Nat.reduceSub, Array.replicate_succ, Array.replicate_zero, List.push_toArray, List.append_toArray, List.nil_append, List.cons_append]
  gi_wp2_with (fail)
  refine ⟨trivial, (callsIn_wide.2 (awake_any _)).mono ?_⟩
  rintro e W1 ⟨rfl, hb1⟩
  have c0 : ∀ i, i < 0 → W1.cell? ⟨b, off + i, none⟩ = some (.int .i64 (z i)) := fun i hi => by
    have hlt : b < w.heap.size := World.block_lt_of_cell? _ _ (hcell i hi)
    rw [hb1.cell (by simp; omega), World.cell?_alloc_past _ _ _ (by simp; omega), World.cell?_alloc_past _ _ _ (by simp; omega), World.cell?_alloc_past _ _ _ hlt]
    exact hcell i hi
  have bl1 : Boxed W1 w.heap.size 31 (.slice (some ⟨b, off, spot⟩) 0 0) := (hb1.block _ (by first | (simp; done) | (simp; omega))).trans (((Boxed.new w 31 (.slice (some ⟨b, off, spot⟩) 0 0)).alloc _).alloc _)
  have bs1 : Boxed W1 (w.heap.size + 1) 3 (.int .i64 stop) := by
    have h := Boxed.new (w.alloc (.cells #[.slice (some ⟨b, off, spot⟩) 0 0] 31)) 3 (.int .i64 stop)
    rw [World.size_alloc] at h
    exact (hb1.block _ (by first | (simp; done) | (simp; omega))).trans (h.alloc _)
  have br1 : Boxed W1 (w.heap.size + 1 + 1) 4 (.bool false) := by
    have h := Boxed.new ((w.alloc (.cells #[.slice (some ⟨b, off, spot⟩) 0 0] 31)).alloc (.cells #[.int .i64 stop] 3)) 4 (.bool false)
    rw [World.size_alloc, World.size_alloc] at h
    exact (hb1.block _ (by first | (simp; done) | (simp; omega))).trans h
  have hB1 : Below w.heap.size w W1 := ((((Below.refl _ w).alloc (Nat.le_refl _) _).alloc (by simp) _).alloc (by simp; omega) _).trans (hb1.mono (by simp; omega))
  have hs1 := hb1.size
  simp only [World.size_alloc] at hs1
  obtain ⟨S, hS⟩ : ∃ n, n = w.heap.size := ⟨_, rfl⟩
  rw [← hS] at bl1 bs1 br1
  have hSl : w.heap.size ≤ S := by omega
  have hSr : S ≤ w.heap.size := by omega
  have hs2 : S + 3 ≤ W1.heap.size := by omega
  rw [← hS]
  clear hS hb1 hs1
  gi_wp2_with (fail)
  have N := new_yes 64 W1 (by omega) (by omega)
  refine ⟨trivial, (callsIn_wide.2 N).mono ?_⟩
  clear N
  rintro e W2 ⟨pp, pl, rfl, hpl, hpp, hp, hb2⟩
  rw [← filled_zero z] at hp
  have c0 : ∀ i, i < 0 → W2.cell? ⟨b, off + i, none⟩ = some (.int .i64 (z i)) := fun i hi => (hb2.cell (World.block_lt_of_cell? _ _ (c0 i hi))).trans (c0 i hi)
  have bl2 : Boxed W2 S 31 (.slice (some ⟨b, off, spot⟩) 0 0) := (hb2.block _ (by omega)).trans bl1
  have bs2 : Boxed W2 (S + 1) 3 (.int .i64 stop) := (hb2.block _ (by omega)).trans bs1
  have br2 : Boxed W2 (S + 1 + 1) 4 (.bool false) := (hb2.block _ (by omega)).trans br1
  have hB2 : Below w.heap.size w W2 := hB1.trans (hb2.mono hB1.size)
  have hs3 := hb2.size
  clear hb2 bl1 bs1 br1 hB1
  have cl := bl2.cell
  have fl := bl2.frozen
  have cs := bs2.cell
  have cr := br2.cell
  have HB : Hid _ := hB2
  clear hB2
  gi_wp2_with (fail)
  obtain ⟨W3, hW3⟩ : ∃ W3, W3 = W2.setCell ⟨S, 0, none⟩ (.slice (some ⟨b, off, spot⟩) 0 0) := ⟨_, rfl⟩
  have bl3 : Boxed W3 S 31 (.slice (some ⟨b, off, spot⟩) 0 0) := by rw [hW3]; exact bl2.set _
  have bs3 : Boxed W3 (S + 1) 3 (.int .i64 stop) := by rw [hW3]; exact box_far bs2 (by show S + 1 ≠ S; omega) _
  have br3 : Boxed W3 (S + 1 + 1) 4 (.bool false) := by rw [hW3]; exact box_far br2 (by show S + 1 + 1 ≠ S; omega) _
  have hp3 : IsPool W3 pp pl (filled z 0) := by rw [hW3]; exact hp.far (by show pl ≠ S; omega) (by show pp ≠ S; omega) _
  have hB3 : Hid (Below w.heap.size w W3) := by show Below _ _ _; rw [hW3]; exact HB.out.setCell (p := ⟨S, 0, none⟩) hSl _
  have c3 : ∀ i, i < 0 → W3.cell? ⟨b, off + i, none⟩ = some (.int .i64 (z i)) := fun i hi => by
    have hlt : b < w.heap.size := World.block_lt_of_cell? _ _ (hcell i (by omega))
    rw [hW3, World.cell?_setCell_other _ _ _ _ (fun e => by injection e with e1; omega)]
    exact c0 i (by omega)
  have hs4 : W3.heap.size = W2.heap.size := by rw [hW3]; simp [World.setCell]
  have hs5 : S + 3 ≤ W3.heap.size := by omega
  rw [← hW3]
  clear hW3 bl2 bs2 br2 hp HB c0 cl fl cs cr hs4
  gi_loopw [8] (fun i wr => ∃ k : Nat, k ≤ 0 ∧ i = .int .i64 k ∧ IsPool wr pp pl (filled z k) ∧ Hid (Below w.heap.size w wr) ∧ Boxed wr S 31 (.slice (some ⟨b, off, spot⟩) 0 0) ∧ Boxed wr (S + 1) 3 (.int .i64 stop) ∧ Boxed wr (S + 1 + 1) 4 (.bool false) ∧ (∀ i, i < 0 → wr.cell? ⟨b, off + i, none⟩ = some (.int .i64 (z i))) ∧ S + 3 ≤ wr.heap.size) (fun i _ => 0 - (intOf i).toNat)
  case atStart => exact ⟨0, Nat.zero_le _, rfl, hp3, hB3, bl3, bs3, br3, c3, hs5⟩
  case round =>
    clear hp3 hB3 bl3 bs3 br3 c3 hs5
    obtain ⟨k, hk, rfl, hp, HB, bl, bs, br, c, hs⟩ := hrel
    have cl := bl.cell
    have cs := bs.cell
    have cr := br.cell
    have fs := bs.frozen
    have fr := br.frozen
    by_cases hlt : k < 0
    · exact absurd hlt (by omega)
    · obtain rfl : k = 0 := by omega
      gi_wp2_with (fail)
      refine ⟨trivial, (callsIn_wide.2 (pick_any stop 65 _ s0 s1 (by omega) (by omega))).mono ?_⟩
      rintro e w4 ⟨st, rfl, st0, st1, rfl⟩
      gi_wp2_with (refine ⟨trivial, ?_⟩; gi_at_call 24; refine (callsIn_wide.2 (all_in _ _)).mono ?_; rintro e w' ⟨rfl, rfl⟩)
      obtain ⟨T, hT⟩ : ∃ n, n = w4.heap.size := ⟨_, rfl⟩
      obtain ⟨W5, hW5⟩ : ∃ W5, W5 = ((w4.setCell ⟨S + 1, 0, none⟩ (.int .i64 st)).alloc (.cells #[.int .i64 0] 3)).alloc (.cells #[.pointer (some ⟨pp, 0, none⟩)] 24) := ⟨_, rfl⟩
      have sz0 : (w4.setCell ⟨S + 1, 0, none⟩ (.int .i64 st)).heap.size = T := by rw [hT]; simp [World.setCell]
      have hsz : W5.heap.size = T + 2 := by rw [hW5]; simp [sz0]
      have hST : S + 3 ≤ T := by omega
      have hppT : pp < T := by rw [hT]; exact World.block_lt_of_cell? _ _ hp.slice
      have hplT : pl < T := by rw [hT]; exact hp.lt
      have gr : w4.grownBy W5 (some (S + 1)) := by
        rw [hW5]
        exact G.trans (G.trans (G.set (World.grownBy.refl w4 _) 0 (.int .i64 st)) (World.grownBy_alloc _ _ _)) (World.grownBy_alloc _ _ _)
      have bn5 : Boxed W5 T 3 (.int .i64 0) := by
        rw [hW5]
        have h := Boxed.new (w4.setCell ⟨S + 1, 0, none⟩ (.int .i64 st)) 3 (.int .i64 0)
        rw [sz0] at h
        exact h.alloc _
      have hbs : W5.cell? ⟨T + 1, 0, none⟩ = some (.pointer (some ⟨pp, 0, none⟩)) := by
        rw [hW5]
        have h := (Boxed.new ((w4.setCell ⟨S + 1, 0, none⟩ (.int .i64 st)).alloc (.cells #[.int .i64 0] 3)) 24 (.pointer (some ⟨pp, 0, none⟩))).cell
        rw [World.size_alloc, sz0] at h
        exact h
      have bl5 : Boxed W5 S 31 (.slice (some ⟨b, off, spot⟩) 0 0) := bl.kept gr (by simp)
      have br5 : Boxed W5 (S + 1 + 1) 4 (.bool false) := br.kept gr (by simp)
      have bs5 : Boxed W5 (S + 1) 3 (.int .i64 st) := by rw [hW5]; exact ((bs.set _).alloc _).alloc _
      have hp5 : IsPool W5 pp pl (filled z 0) := hp.grown gr (by simp; omega) (by simp; omega)
      have hB5 : Below w.heap.size w W5 := HB.out.grown gr HB.out.size (fun j e => by cases e; omega)
      have hb9 : ∀ i, i < 0 → b < w.heap.size := fun i hi => World.block_lt_of_cell? _ _ (hcell i (by omega))
      have c5 : ∀ i, i < 0 → W5.cell? ⟨b, off + i, none⟩ = some (.int .i64 (z i)) := fun i hi => gr.cell (c i hi) (by have := hb9 i hi; simp; omega)
      rw [← hW5, ← hT]
      clear hW5 sz0 hT gr bl br bs hp HB c cl cs cr fs fr
      refine' range_by h1 (gf := 33) (lb := #[.pointer (some ⟨T + 1, 0, none⟩)]) rfl (enters_of Try.func33 (by kernel_rfl) rfl)
        (all_tells (12 - 1) (by omega) (T + 1) pp pl (filled z 0) W5 hp5 hbs) (fun h k => Keep.trans h k) (fun _ _ _ o' _ h hc => keep_b o' h hc) (fun _ => rfl)
        (fun pre V => InOrder pre ∧ (pre.length : Int) ≤ st ∧ Below w.heap.size w V ∧ Boxed V T 3 (.int .i64 (pre.length : Int)) ∧ Boxed V S 31 (.slice (some ⟨b, off, spot⟩) 0 0) ∧ Boxed V (S + 1) 3 (.int .i64 st) ∧ Boxed V (S + 1 + 1) 4 (.bool false) ∧ (∀ i, i < 0 → V.cell? ⟨b, off + i, none⟩ = some (.int .i64 (z i))))
        (fun c pre V => (c = .ret ∧ ¬ InOrder pre) ∨ (c = .exit 2 ∧ ∃ pre' x, pre = pre' ++ [x] ∧ (pre'.length : Int) = st ∧ Below w.heap.size w V ∧ Boxed V T 3 (.int .i64 st) ∧ Boxed V S 31 (.slice (some ⟨b, off, spot⟩) 0 0) ∧ Boxed V (S + 1) 3 (.int .i64 st) ∧ Boxed V (S + 1 + 1) 4 (.bool false)))
        (fun s A B row hs hg hr => ⟨hs.1, hs.2.1, hs.2.2.1.grown hg hs.2.2.1.size (fun k e => by have := (hr k e).1; omega), box_own hs.2.2.2.1 hg hr, box_own hs.2.2.2.2.1 hg hr, box_own hs.2.2.2.2.2.1 hg hr, box_own hs.2.2.2.2.2.2.1 hg hr, fun i hi => hg.cell (hs.2.2.2.2.2.2.2 i hi) (fun e => by have h1 := (hr _ e.symm).1; have h2 := hb9 i hi; simp only at h1; omega)⟩)
        (fun c s A B row hs hg hr => hs.imp id (fun h => by
          obtain ⟨a1, pre', x, a2, a3, a4, a5, a6, a7, a8⟩ := h
          exact ⟨a1, pre', x, a2, a3, a4.grown hg a4.size (fun k e => by have := (hr k e).1; omega), box_own a5 hg hr, box_own a6 hg hr, box_own a7 hg hr, box_own a8 hg hr⟩))
        ⟨InOrder.nil, st0, hB5, bn5, bl5, bs5, br5, c5⟩ _ ?assign ?body ?done ?stop
      case assign =>
        intro l x W K hK
        unfold encA
        gi_wp2
        exact hK
      case body =>
        rintro l pre x V ⟨ho, hst, hB, bn, bl, bs, br, c⟩ hlen
        exact absurd (live_filled z 0 x).1 (by omega)
      case done =>
        rintro D ys V hD rfl ⟨ho, hst, hB, bn, bl, bs, br, c⟩ hK
        have hl' := lives_full z 0 (by omega)
        rw [hl'] at hst bn
        clear hl' ho c
        have cn := bn.cell
        have cl := bl.cell
        have cs := bs.cell
        have cr := br.cell
        have fr := br.frozen
        have hDS : S + 1 + 1 < D := by omega
        have fin : ∀ v : Value, (V.setCell ⟨S + 1 + 1, 0, none⟩ v).heap[D]? = some (.deferred (some [])) := fun v => (KeepsOthers.setCell _ _ _).same D _ hK rfl
        rcases Int.lt_or_eq_of_le hst with h | h
        · gi_wp2
          refine ⟨by simp, .inl ⟨_, _, rfl, run_takeDeferred (fin _), ?_⟩⟩
          have b9 := ((br.set (.bool true)).kept (grownBy_putObj' _ D (.deferred none)) (by simp; omega)).cell
          refine ⟨.bool true, by simp [results, Try.results5, go_sem, b9], rfl, ?_⟩
          exact (hB.setCell (p := ⟨S + 1 + 1, 0, none⟩) (by show w.heap.size ≤ S + 1 + 1; omega) _).trans (belowK_b (w := w) (Nat.le_refl _) _ D _ _ (by omega) (fin _) rfl rfl)
        · subst h
          gi_wp2
          refine ⟨by simp, .inl ⟨_, _, rfl, run_takeDeferred (fin _), ?_⟩⟩
          have b9 := ((br.set (.bool true)).kept (grownBy_putObj' _ D (.deferred none)) (by simp; omega)).cell
          refine ⟨.bool true, by simp [results, Try.results5, go_sem, b9], rfl, ?_⟩
          exact (hB.setCell (p := ⟨S + 1 + 1, 0, none⟩) (by show w.heap.size ≤ S + 1 + 1; omega) _).trans (belowK_b (w := w) (Nat.le_refl _) _ D _ _ (by omega) (fin _) rfl rfl)
      case stop =>
        rintro D c pre V hD ⟨mm, hmm, hpre⟩ hx hK
        rcases hx with ⟨rfl, hx⟩ | ⟨rfl, pre', x, a1, a2, hB, bn, bl, bs, br⟩
        · exact absurd (by rw [hpre]; exact (lives_filled z 0 (by omega) mm hmm).1) hx
        · have hl := (lives_filled z 0 (by omega) mm hmm).2
          rw [← hpre, a1, List.length_append] at hl
          have hlt3 : st < (0 : Nat) := by first | (simp at hl; done) | (simp at hl; omega)
          exfalso
          omega

theorem walk (a0 : Option Addr) (len0 cap0 : Nat) (z0 : List Int) (stop : Int) (hs : (Lit.int .i64 stop).wf = true) (w : World) (w0 : IsRow .i64 w a0 len0 cap0 z0) :
    Calls Try.prog 5 #[.slice a0 len0 cap0, .int .i64 stop] w fun e w' => e = .returned (.bool true) ∧ Below w.heap.size w w' := by
  have hb := bounds_i64 hs
  rcases w0 with ⟨rfl, rfl, rfl, rfl⟩ | ⟨x, rfl, hl, hm, hz, hc, _⟩
  · exact walk_nil 0 0 (fun _ => 0) stop w (Nat.le_refl _) (fun i hi => absurd hi (by omega)) (by omega) (by omega)
  · unfold maxLen at hm
    obtain ⟨b, off, spot⟩ := x
    by_cases h0 : len0 = 0
    · subst h0
      by_cases hc0 : cap0 = 0
      · subst hc0
        exact walk_emp b off spot (fun _ => 0) stop w (Nat.le_refl _) (fun i hi => absurd hi (by omega)) (by omega) (by omega)
      · have c0 := hc 0 (by omega)
        have hsp : spot = none := by simpa [Addr.add] using World.cell?_spot c0
        subst hsp
        exact walk_lt b off 0 cap0 (fun _ => 0) stop w (Nat.zero_le _) (by omega) hm (fun i hi => absurd hi (by omega)) (by omega) (by omega)
    · have c0 := hc 0 (by omega)
      have hsp : spot = none := by simpa [Addr.add] using World.cell?_spot c0
      subst hsp
      have hcell : ∀ i, i < len0 → w.cell? ⟨b, off + i, none⟩ = some (.int .i64 (z0.getD i 0)) := fun i hi => by
        have := hc i (by omega)
        by_cases hi0 : i = 0
        · subst hi0; simpa [Addr.add] using this
        · simpa [Addr.add, hi0] using this
      rcases Nat.lt_trichotomy len0 64 with h | h | h
      · exact walk_lt b off len0 cap0 (fun i => z0.getD i 0) stop w hl h hm hcell (by omega) (by omega)
      · subst h; exact walk_eq b off cap0 (fun i => z0.getD i 0) stop w hl hm hcell (by omega) (by omega)
      · exact walk_gt b off len0 cap0 (fun i => z0.getD i 0) stop w hl h hm hcell (by omega) (by omega)

/-! ### The row's step, after the guide's template -/
set_option maxRecDepth 100000 in
theorem lifted (os : Os) (started : os.Started) (H : Type) (enc : TypeId × Value → H) :
    ReturnsInHanded {} Try.checked os 5 .any (Rows.poolGoesSpec.pre6 enc Try.prog Try.f5 Rows.poolGoesRow.domain false) (Rows.poolGoesSpec.post enc Try.prog Try.f5 false true false false) := by
  refine returnsInHanded_of_change (C := Try.checked) own started (by kernel_rfl) Try.func5
    (ChangeSpec.witness6 (enc := enc) (C := Try.checked) false ⟨#[], #[.slice none 0 0, .int .i64 0], []⟩ 8 (by kernel_rfl) (by kernel_rfl) (by kernel_rfl) (by kernel_rfl)) ?_
  intro W base args ds gs before hval0 hW hcnd _
  have hval : ∀ (j : Nat) t v, Try.f5.params[j]? = some t → args[j]? = some v → Value.okWide Try.prog W .any base t v := hval0
  have hW' := hW
  obtain ⟨p, q, hA0, hV, rfl, hfz, hnd⟩ := hW
  have hA : DataW.TrodAll enc Try.prog W 0 (fun _ => true) true Try.f5.params.toList args.toList ds p := hA0
  rw [Try.params5] at hA hval
  obtain ⟨v0, vs0, d0, ds0, p0, q0, hargs, rfl, rfl, h0, r0⟩ := trodAll_cons hA
  obtain ⟨v1, vs1, d1, ds1, p1, q1, rfl, rfl, rfl, h1, r1⟩ := trodAll_cons r0
  obtain ⟨rfl, rfl, rfl⟩ := trodAll_nil r1
  obtain rfl : args = #[v0, v1] := by cases args; simp_all
  obtain ⟨rfl, rfl⟩ := trodVars_none hV
  obtain ⟨a0, len0, cap0, rfl⟩ := okWide_slice Try.underlying31 (hval 0 31 v0 rfl rfl)
  have k0 := h0
  have lt0 : ∀ x ∈ p0, x.block < W.heap.size := by obtain ⟨m, hm⟩ := k0; exact DataW.trod_lt m _ _ _ hm
  obtain ⟨z0, w0⟩ : ∃ zs, IsRow .i64 W a0 len0 cap0 zs := by
    obtain ⟨fuel, hf⟩ := h0
    rcases open_ints Try.underlying31 Try.underlying3 (by kernel_rfl) hf with ⟨hcs, _⟩ | ⟨x, l, c, zs, hcs, _, hl, hm, hz, _, hcell, hwz⟩
    · simp [Value.cells] at hcs
      obtain ⟨rfl, rfl, rfl⟩ := hcs
      exact ⟨[], .inl ⟨rfl, rfl, rfl, rfl⟩⟩
    · simp [Value.cells] at hcs
      obtain ⟨rfl, rfl, rfl⟩ := hcs
      exact ⟨zs, .inr ⟨_, rfl, hl, hm, by simpa using hz, hcell, hwz⟩⟩
  obtain ⟨a1, rfl, rfl, rfl, w1⟩ := open_int Try.underlying3 (hval 1 3 v1 rfl rfl) h1
  clear hA0 hval0
  refine (walk a0 len0 cap0 z0 a1 w1 W w0).mono fun e W' ⟨he, bel⟩ => ?_
  subst he
  exact ⟨_, rfl, _, _, _, [], _, [], hW', trodAll_mk1 (shut_bool Try.underlying4 _), (trodAll_cons_mk (Below.trod laidOut (by kernel_rfl) (of_decide_eq_true (by kernel_rfl)) k0 bel lt0) (trodAll_cons_mk (shut_int Try.underlying3 w1) trodAll_mk0)), rfl, bel.frame _, fun h => by cases h⟩

theorem over : Rows.poolGoesRow.holds Try.pinned (OpenSpec.ofChange Rows.poolGoesSpec) :=
  OpenClaim.holds_of_wide 5 Try.f5 rfl rfl rfl rfl rfl rfl rfl ⟨rfl, rfl, rfl, rfl, rfl⟩ rfl rfl rfl rfl rfl (by kernel_rfl) Try.func5 (by kernel_rfl)
    (of_decide_eq_true (by kernel_rfl)) (by unfold Func.isWrapper; first | (rw [if_pos (by decide +kernel)]; kernel_rfl) | (rw [if_neg (by decide +kernel)]; exact ⟨rfl, rfl⟩))
    (fun os started H enc _ => lifted os started H enc)

end poolGoes

theorem poolGoes_holds : Rows.PoolGoesSaid := poolGoes.over
#print axioms poolGoes_holds
end Go.Proofs.Ytchkepakbflmhaa

