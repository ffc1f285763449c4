/- Points of grains, and directions made short: plain numbers. -/
import Derived.Test.YtablgiflakncfaaGreatBBW0
import Derived.RowKit
import Derived.Test.YtablgiflakncfaaGreatBBW5
import Derived.Test.YtablgiflakncfaaGreatBBW4
import Derived.Test.YtablgiflakncfaaGreatProg
import Derived.WalkKit
import Derived.Orders
import Derived.Below
import Derived.Laws.Rows
import Derived.Test.YtablgiflakncfaaGreatBBW3
import Derived.Test.YtablgiflakncfaaGreatBBW2
import Derived.Test.YtablgiflakncfaaGreatBBW1
import Derived.RangeFuncNested
import Derived.RangeFuncBound
import Derived.RangeFuncCalls
import Derived.RangeFuncLeaves
import Derived.RangeFuncBox
import Derived.Shelf.Abstract
import Derived.OwnWalkIn
import Derived.TacticsInMore
import Derived.LoopNIn
import Derived.LoopIn
import Derived.LoopTactic
import Derived.ProofKit
import Derived.Handy
import Derived.Laws.MakeOwn
import Derived.Laws.OwnMore
import Derived.Maps.AppendAt
import Derived.Deep.RegionWith
import Derived.Deep.QuietTactic
import Derived.BigQuiet
import Derived.Deep.CutBlock
import Derived.Deep.CutRange
import Derived.Deep.LoopGhost
import Derived.Lib.SmallJoins
import Derived.Scope
import Derived.OrdersIn
import Derived.Sort.CutIn
import Derived.OneCell
import Derived.WalkMore
import Derived.Lib.BufferMore
import Derived.Test.YtablgiflakncfaaGreatBBW10
import Derived.Test.YtablgiflakncfaaGreatBBW9
import Derived.Test.YtablgiflakncfaaGreatBBW6
import Derived.Test.YtablgiflakncfaaGreatBBW8
import Derived.Test.YtablgiflakncfaaGreatBBW7
import Derived.Laws.MathBits
import Derived.Laws.Externs
import Derived.Laws.BitsAllLaws
import Derived.WalkLawsBesides
import Derived.Lib.AppendZeros
import Derived.Test.YtablgiflakncfaaGreatBBW11
import Derived.Test.YtablgiflakncfaaGreatBBW12
import Derived.Test.YtablgiflakncfaaGreatBBW13
import Derived.Deep.MidRow
import Derived.Test.YtablgiflakncfaaGreatBBW17
import Derived.Test.YtablgiflakncfaaGreatBBW22
import Derived.Test.YtablgiflakncfaaGreatBBW14
import Derived.Test.YtablgiflakncfaaGreatBBW16
import Derived.Test.YtablgiflakncfaaGreatBBW15
import Derived.Deep.RegionHeld3
import Derived.Test.YtablgiflakncfaaGreatBBW19
import Derived.Test.YtablgiflakncfaaGreatBBW18
import Derived.Test.YtablgiflakncfaaGreatBBW21
import Derived.Test.YtablgiflakncfaaGreatBBW20
namespace Go.Proofs.YtablgiflakncfaaGreat
set_option linter.unusedVariables false

theorem neg_by (p : Pt) (n : Int) : p.neg.by n = (p.by n).neg := by simp [Pt.neg, Pt.by, Int.neg_tdiv]
theorem neg_g (p : Pt) : p.neg.g = p.g := by simp [Pt.neg, Pt.g]
theorem neg_low (p : Pt) : p.neg.low = p.low.neg := by
  unfold Pt.low
  rw [neg_g]
  split
  · rfl
  · exact neg_by _ _
theorem neg_halveF (n : Nat) (p : Pt) : halveF n p.neg = (halveF n p).neg := by
  induction n generalizing p with
  | zero => rfl
  | succ n ih =>
    unfold halveF
    rw [neg_in]
    split
    · rfl
    · rw [neg_by, ih]
theorem neg_short (p : Pt) : p.neg.short = p.short.neg := by
  unfold Pt.short
  rw [neg_in]
  split
  · rw [neg_low]
    show (halveF 43 p.low.neg).low = _
    rw [neg_halveF, neg_low]; rfl
  · rfl
end Go.Proofs.YtablgiflakncfaaGreat
namespace Go.Proofs.YtablgiflakncfaaGreat
set_option linter.unusedVariables false

theorem keep_len (L : List Pt) : (keepD L).length ≤ 128 := by unfold keepD; rw [List.length_take]; omega
theorem keep_mem {L : List Pt} {p : Pt} (h : p ∈ keepD L) : p ∈ L := (List.mem_filter.1 (List.mem_of_mem_take h)).1
theorem mov_between {p w : Pt} {k m : Int} (hk : 0 ≤ k ∧ k ≤ 16) (h0 : p.inB m = true) (h1 : (p.mov w).inB m = true) : (p.mov (wayBy w k)).inB m = true := by
  rw [Pt.inB_iff] at *
  unfold Pt.mov wayBy at *
  dsimp only at *
  have hx := part_between (x := w.x) hk
  have hy := part_between (x := w.y) hk
  have hz := part_between (x := w.z) hk
  omega
/-- A Trail may be where its points may be. -/
theorem trail_may {a : Cr} {w : Pt} (h : goB a w = true) {k : Int} (hk : 0 ≤ k ∧ k ≤ 16) : mayC (trailC a w k) = (a.P.map (·.mov (wayBy w k))).all (·.inB 16777216) := by
  obtain ⟨h1, h2, h3, h4, h5, h6⟩ := go_parts h
  have e : trailC a w k = ⟨a.P ++ a.P.map (·.mov (wayBy w k)), keepD (a.A ++ a.E.map (fun e => (e.cross w.short).short)), keepD (a.E ++ [w.short]), a.r⟩ := by unfold trailC; rw [h, decide_eq_true hk]; rfl
  rw [e]
  unfold mayC at h1 ⊢
  dsimp only
  rw [Bool.eq_iff_iff]
  simp only [Bool.and_eq_true, decide_eq_true_eq, List.all_eq_true, List.length_append, List.length_map] at h1 ⊢
  refine ⟨fun g p hp => g.1.1.1.2 p (List.mem_append_right _ hp), fun g => ⟨⟨⟨⟨by omega, fun p hp => ?_⟩, ⟨keep_len _, fun p hp => ?_⟩⟩, ⟨keep_len _, fun p hp => ?_⟩⟩, h1.2⟩⟩
  · rcases List.mem_append.1 hp with hp | hp
    · exact h4 p hp
    · exact g p hp
  · rcases List.mem_append.1 (keep_mem hp) with hp | hp
    · exact h5 p hp
    · obtain ⟨e, _, rfl⟩ := List.mem_map.1 hp
      exact short_in _
  · rcases List.mem_append.1 (keep_mem hp) with hp | hp
    · exact h6 p hp
    · rw [List.mem_singleton.1 hp]
      exact short_in _
theorem trail_of {a b : Cr} {w : Pt} (h : castB a w b = true) {k : Int} (hk : 0 ≤ k ∧ k ≤ 16) : mayC (trailC a w k) = true := by
  unfold castB at h
  simp only [Bool.and_eq_true] at h
  rw [trail_may h.1.1 hk, List.all_eq_true]
  intro p hp
  obtain ⟨q, hq, rfl⟩ := List.mem_map.1 hp
  exact mov_between hk ((go_parts h.1.1).2.2.2.1 q hq) (List.all_eq_true.1 h.1.2 _ (List.mem_map.2 ⟨q, hq, rfl⟩))
theorem cast_parts {a b : Cr} {w : Pt} (h : castB a w b = true) : goB a w = true ∧ mayC a = true ∧ mayC b = true := by
  unfold castB at h
  simp only [Bool.and_eq_true] at h
  exact ⟨h.1.1, (go_parts h.1.1).1, h.2⟩
end Go.Proofs.YtablgiflakncfaaGreat
namespace Go.Proofs.YtablgiflakncfaaGreat
open Go.RowKit Go.Shelf
set_option linter.unusedVariables false

set_option maxHeartbeats 2000000 in
theorem rin9_any (p : Pt) (m : Int) (w : World) (hm : 0 ≤ m ∧ m ≤ 4611686018427387903) :
    Calls Tryz.prog 40 #[p.v, .int .i64 m] w fun e W => e = .returned (.bool (p.inB m)) ∧ Below w.heap.size w W := by
  have HI : Hid (p.inB m = decide ((-m ≤ p.x ∧ p.x ≤ m) ∧ (-m ≤ p.y ∧ p.y ≤ m) ∧ (-m ≤ p.z ∧ p.z ≤ m))) := rfl
  obtain ⟨R9, hR9⟩ : ∃ R9, p.inB m = R9 := ⟨_, rfl⟩
  rw [hR9] at HI ⊢
  clear hR9
  obtain ⟨x, y, z⟩ := p
  unfold Pt.v
  dsimp only at *
  obtain ⟨mm, hmm⟩ : ∃ mm, IntKind.i64.wrap (-m) = mm := ⟨_, rfl⟩
  have hm9 : mm = -m := by rw [← hmm, IntKind.wrap_i64]; omega
  rw [← hm9] at HI
  have HM : Hid _ := hm
  clear hm9 hm
  by_cases h1 : mm ≤ x
  · by_cases h2 : x ≤ m
    · by_cases h3 : mm ≤ y
      · by_cases h4 : y ≤ m
        · by_cases h5 : mm ≤ z
          · by_cases h6 : z ≤ m
            · have e9 : R9 = true := by rw [HI.out]; simp [h1, h2, h3, h4, h5, h6]
              subst e9
              go_enter Tryz.func40, Tryz.ntmps40
              go_wp2
              go_ret
              exact ⟨rfl, n_after _ _⟩
            · have e9 : R9 = false := by rw [HI.out]; simp [h6]
              subst e9
              go_enter Tryz.func40, Tryz.ntmps40
              go_wp2
              go_ret
              exact ⟨rfl, n_after _ _⟩
          · have e9 : R9 = false := by rw [HI.out]; simp [h5]
            subst e9
            go_enter Tryz.func40, Tryz.ntmps40
            go_wp2
            go_ret
            exact ⟨rfl, n_after _ _⟩
        · have e9 : R9 = false := by rw [HI.out]; simp [h4]
          subst e9
          go_enter Tryz.func40, Tryz.ntmps40
          go_wp2
          go_ret
          exact ⟨rfl, n_after _ _⟩
      · have e9 : R9 = false := by rw [HI.out]; simp [h3]
        subst e9
        go_enter Tryz.func40, Tryz.ntmps40
        go_wp2
        go_ret
        exact ⟨rfl, n_after _ _⟩
    · have e9 : R9 = false := by rw [HI.out]; simp [h2]
      subst e9
      go_enter Tryz.func40, Tryz.ntmps40
      go_wp2
      go_ret
      exact ⟨rfl, n_after _ _⟩
  · have e9 : R9 = false := by rw [HI.out]; simp [h1]
    subst e9
    go_enter Tryz.func40, Tryz.ntmps40
    go_wp2
    go_ret
    exact ⟨rfl, n_after _ _⟩
set_option maxHeartbeats 2000000 in
set_option maxRecDepth 100000 in
theorem rall9_any (Ls : List Pt) (m : Int) (v : Value) (w : World) (hv : Lies w v Ls) (hm : 0 ≤ m) (hm' : m ≤ 1152921504606846976) :
    Calls Tryz.prog 60 #[v, .int .i64 m] w fun e W => e = .returned (.bool (Ls.all (·.inB m))) ∧ Below w.heap.size w W := by
  obtain ⟨o, cap, rfl, hlc, hcm, hcell⟩ := hv.form
  have HC : Hid _ := hcell
  have HW : Hid _ := fun (p : Pt) (w' : World) => rin9_any p m w' ⟨hm, by omega⟩
  clear hv hcell
  go_enter Tryz.func60, Tryz.ntmps60
  go_wp2_with (fail)
  go_loopg [5] Ls.length (fun gm s wr => ∃ i : Nat, s = .int .i64 (i : Int) ∧ i ≤ Ls.length ∧ gm = Ls.length - i ∧ Hid (∀ p ∈ Ls.take i, p.inB m = true) ∧ Hid (Below w.heap.size w wr))
  case atStart => exact ⟨0, rfl, Nat.zero_le _, rfl, by simp [Hid], Below.refl _ _⟩
  case round =>
    obtain ⟨i, rfl, hi, hgm, HT, HB⟩ := hrel
    have HG1 : Hid _ := hgm
    clear hgm
    by_cases hit : i < Ls.length
    · obtain ⟨g, f, rfl, x0, x1, x2⟩ := HC.out i hit
      have y0 := c_after HB.out x0
      have y1 := c_after HB.out x1
      have y2 := c_after HB.out x2
      have HWp : Hid _ := fun w' => HW.out (pt Ls i) w'
      have HTK : Hid (Ls.take (i + 1) = Ls.take i ++ [pt Ls i]) := take_pt hit
      have HM : Hid (pt Ls i ∈ Ls) := pt_mem hit
      generalize pt Ls i = q at *
      obtain ⟨qx, qy, qz⟩ := q
      unfold Pt.v at HWp
      dsimp only at *
      clear x0 x1 x2 HC HW
      go_wp2_with (fail)
      refine Calls.mono (HWp.out _) ?_
      rintro e V ⟨rfl, hb⟩
      have HB2 : Hid _ := b_step HB.out hb
      clear hb y0 y1 y2
      cases hin : Pt.inB ⟨qx, qy, qz⟩ m with
      | true =>
        have HIN : Hid _ := hin
        clear hin
        go_wp2_with (fail)
        go_roundg (Ls.length - (i + 1))
        case rel =>
          refine ⟨i + 1, by simp, by omega, rfl, fun p hp => ?_, HB2⟩
          rw [HTK.out, List.mem_append] at hp
          rcases hp with hp | hp
          · exact HT.out p hp
          · rw [List.mem_singleton.1 hp]; exact HIN.out
        case measure => have := HG1.out; omega
      | false =>
        have HAL : Hid (Ls.all (·.inB m) = false) := by
          show _ = _
          rw [List.all_eq_false]
          exact ⟨_, HM.out, by rw [hin]; decide⟩
        clear hin
        go_wp2_with (fail)
        go_ret
        exact ⟨by rw [HAL.out]; rfl, HB2.out⟩
    · obtain rfl : i = Ls.length := by omega
      have HAL : Hid (Ls.all (·.inB m) = true) := by
        show _ = _
        rw [List.all_eq_true]
        intro p hp
        exact HT.out p (by rw [List.take_length]; exact hp)
      go_wp2_with (fail)
      go_ret
      exact ⟨by rw [HAL.out]; rfl, HB.out⟩
end Go.Proofs.YtablgiflakncfaaGreat
namespace Go.Proofs.YtablgiflakncfaaGreat
open Go.RowKit Go.Shelf
set_option linter.unusedVariables false

theorem may_no {c : Cr} (h : c.P.length < 1 ∨ 32 < c.P.length ∨ 128 < c.A.length ∨ 128 < c.E.length ∨ c.r < 0 ∨ 65536 < c.r) : mayC c = false := by
  cases hm : mayC c with
  | false => rfl
  | true =>
    unfold mayC at hm
    simp only [Bool.and_eq_true, decide_eq_true_eq] at hm
    omega
theorem may_yes {c : Cr} (h1 : 1 ≤ c.P.length ∧ c.P.length ≤ 32) (h2 : c.A.length ≤ 128) (h3 : c.E.length ≤ 128) (h4 : 0 ≤ c.r ∧ c.r ≤ 65536) : mayC c = (c.P.all (·.inB 16777216) && (c.A.all (·.inB 1048576) && c.E.all (·.inB 1048576))) := by
  unfold mayC
  rw [decide_eq_true h1, decide_eq_true h2, decide_eq_true h3, decide_eq_true h4]
  generalize c.P.all (·.inB 16777216) = a
  generalize c.A.all (·.inB 1048576) = b
  generalize c.E.all (·.inB 1048576) = d
  cases a <;> cases b <;> cases d <;> rfl

set_option maxHeartbeats 4000000 in
set_option maxRecDepth 100000 in
theorem rmay9_any (c : Cr) (pv av ev : Value) (w0 : World) (hp : Lies w0 pv c.P) (ha : Lies w0 av c.A) (he : Lies w0 ev c.E) :
    Calls Tryz.prog 32 #[coreA pv av ev c.r] w0 fun e W => e = .returned (.bool (mayC c)) ∧ Below w0.heap.size w0 W := by
  have HN : Hid _ := fun h => may_no (c := c) h
  have HY : Hid _ := fun h1 h2 h3 h4 => may_yes (c := c) h1 h2 h3 h4
  obtain ⟨R9, hR9⟩ : ∃ R, mayC c = R := ⟨_, rfl⟩
  rw [hR9] at HN HY ⊢
  clear hR9
  obtain ⟨P, A, E, r⟩ := c
  dsimp only at *
  obtain ⟨o, cap, rfl, hlc, hcm, _⟩ := hp.form
  obtain ⟨o2, cap2, rfl, _, _, _⟩ := ha.form
  obtain ⟨o3, cap3, rfl, _, _, _⟩ := he.form
  have H2 : Hid _ := fun (w' : World) (h : Below w0.heap.size w0 w') => rall9_any P 16777216 _ w' (hp.below h) (by decide) (by decide)
  have H3 : Hid _ := fun (w' : World) (h : Below w0.heap.size w0 w') => rall9_any A 1048576 _ w' (ha.below h) (by decide) (by decide)
  have H4 : Hid _ := fun (w' : World) (h : Below w0.heap.size w0 w') => rall9_any E 1048576 _ w' (he.below h) (by decide) (by decide)
  clear hp ha he hlc hcm
  generalize P.all (·.inB 16777216) = k2 at *
  generalize A.all (·.inB 1048576) = k3 at *
  generalize E.all (·.inB 1048576) = k4 at *
  unfold coreA at *
  go_enter Tryz.func32, Tryz.ntmps32
  obtain ⟨V, hV⟩ : ∃ V, V = w0.alloc (.cells #[.slice o P.length cap, .slice o2 A.length cap2, .slice o3 E.length cap3, .int .i64 r] 28) := ⟨_, rfl⟩
  obtain ⟨cb, hcb⟩ : ∃ b, b = w0.heap.size := ⟨_, rfl⟩
  have HB : Hid (Below w0.heap.size w0 V) := by show Below _ _ _; rw [hV]; exact n_after _ _
  have HC : Hid _ := Cells4.new w0 (.slice o P.length cap) (.slice o2 A.length cap2) (.slice o3 E.length cap3) r 28
  rw [← hV, ← hcb] at HC
  go_upto_region 1 with fail
  rw [← hV, ← hcb]
  clear hV hcb
  obtain ⟨q0, q1, q2, q3⟩ := HC.out
  by_cases c0 : (P.length : Int) < 1
  · have e9 : R9 = false := HN.out (by omega)
    subst e9
    go_wp2_with (fail)
    go_ret
    exact ⟨rfl, HB.out⟩
  · skip
    by_cases c1 : (32 : Int) < P.length
    · have e9 : R9 = false := HN.out (by omega)
      subst e9
      go_wp2_with (fail)
      go_ret
      exact ⟨rfl, HB.out⟩
    · skip
      by_cases c2 : (128 : Int) < A.length
      · have e9 : R9 = false := HN.out (by omega)
        subst e9
        go_wp2_with (fail)
        go_ret
        exact ⟨rfl, HB.out⟩
      · skip
        by_cases c3 : (128 : Int) < E.length
        · have e9 : R9 = false := HN.out (by omega)
          subst e9
          go_wp2_with (fail)
          go_ret
          exact ⟨rfl, HB.out⟩
        · skip
          by_cases c4 : r < 0
          · have e9 : R9 = false := HN.out (by omega)
            subst e9
            go_wp2_with (fail)
            go_ret
            exact ⟨rfl, HB.out⟩
          · skip
            by_cases c5 : 65536 < r
            · have e9 : R9 = false := HN.out (by omega)
              subst e9
              go_wp2_with (fail)
              go_ret
              exact ⟨rfl, HB.out⟩
            · have e9 : Hid _ := HY.out (by omega) (by omega) (by omega) (by omega)
              clear HN HY
              go_wp2_with (fail)
              refine Calls.mono (H2.out _ HB.out) ?_
              rintro e V2 ⟨rfl, hb⟩
              have q1 := c_after hb q1
              have q2 := c_after hb q2
              have HB : Hid _ := b_step HB.out hb
              clear hb q0 q3
              go_wp2_with (fail)
              refine Calls.mono (H3.out _ HB.out) ?_
              rintro e V3 ⟨rfl, hb⟩
              have q2 := c_after hb q2
              have HB : Hid _ := b_step HB.out hb
              clear hb q1
              go_wp2_with (fail)
              refine Calls.mono (H4.out _ HB.out) ?_
              rintro e V4 ⟨rfl, hb⟩
              have HB : Hid _ := b_step HB.out hb
              clear hb q2
              cases k2 with
              | false =>
                go_wp2_with (fail)
                go_ret
                exact ⟨by rw [e9.out]; rfl, HB.out⟩
              | true =>
                cases k3 with
                | false =>
                  go_wp2_with (fail)
                  go_ret
                  exact ⟨by rw [e9.out]; rfl, HB.out⟩
                | true =>
                  go_wp2_with (fail)
                  go_ret
                  exact ⟨by rw [e9.out]; rfl, HB.out⟩
end Go.Proofs.YtablgiflakncfaaGreat
namespace Go.Proofs.YtablgiflakncfaaGreat
open Go.RowKit Go.Shelf
set_option linter.unusedVariables false

def sg (i : Nat) (x : Int) : Int := if i = 0 then -x else x
end Go.Proofs.YtablgiflakncfaaGreat
namespace Go.Proofs.YtablgiflakncfaaGreat
set_option linter.unusedVariables false

theorem best_tops (g : Pt → Int) : ∀ (Y : List Pt) (s : Bs) (n : Pt) (h : Int), bestL g s Y = some (n, h) → (∀ m k, s = some (m, k) → k ≤ h) ∧ ∀ y ∈ Y, g y ≤ h
  | [], s, n, h, e => ⟨fun m k e2 => by have e3 : s = some (n, h) := e; rw [e3] at e2; cases e2; exact Int.le_refl _, fun y hy => by cases hy⟩
  | p :: r, s, n, h, e => by
    obtain ⟨h1, h2⟩ := best_tops g r (bestS g s p) n h e
    have hp : g p ≤ h ∧ ∀ m k, s = some (m, k) → k ≤ h := by
      cases s with
      | none => exact ⟨h1 p (g p) rfl, fun m k e => by cases e⟩
      | some x =>
        obtain ⟨m, k⟩ := x
        by_cases hl : k < g p
        · have := h1 p (g p) (by unfold bestS; dsimp only; rw [if_pos hl])
          exact ⟨this, fun m' k' e => by cases e; omega⟩
        · have := h1 m k (by unfold bestS; dsimp only; rw [if_neg hl])
          exact ⟨by omega, fun m' k' e => by cases e; exact this⟩
    refine ⟨hp.2, fun y hy => ?_⟩
    rcases List.mem_cons.1 hy with rfl | hy
    · exact hp.1
    · exact h2 y hy
end Go.Proofs.YtablgiflakncfaaGreat

namespace Go.Proofs.YtablgiflakncfaaGreat
namespace NM
set_option linter.unusedVariables false

theorem neg_O {p : Pt} : p.neg = Pt.O ↔ p = Pt.O := by
  obtain ⟨x, y, z⟩ := p
  unfold Pt.neg Pt.O
  simp only [Pt.mk.injEq]
  omega
theorem dbl_neg (p : Pt) : p.neg.dbl = p.dbl.neg := by
  unfold Pt.dbl Pt.neg
  dsimp only
  simp only [Int.mul_neg]
theorem lngF_neg : ∀ (k : Nat) (p : Pt), lngF k p.neg = (lngF k p).neg
  | 0, p => rfl
  | k + 1, p => by
    unfold lngF
    rw [neg_in]
    split
    · rw [dbl_neg]; exact lngF_neg k _
    · rfl
theorem lng_neg (p : Pt) : p.neg.lng = p.lng.neg := by
  unfold Pt.lng
  rw [neg_short]
  by_cases h : p.short = Pt.O
  · rw [if_pos h, if_pos (neg_O.2 h)]; rfl
  · rw [if_neg h, if_neg (fun e => h (neg_O.1 e))]; exact lngF_neg _ _
end NM
end Go.Proofs.YtablgiflakncfaaGreat
namespace Go.Proofs.YtablgiflakncfaaGreat
set_option linter.unusedVariables false
set_option maxRecDepth 100000

/-! ### Chapter 18's examples -/
/-! ### Balls, ways and shapes that may be -/
def V3.m43 (v : V3) : Prop := (-8796093022208 ≤ v.x ∧ v.x ≤ 8796093022208) ∧ (-8796093022208 ≤ v.y ∧ v.y ≤ 8796093022208) ∧ (-8796093022208 ≤ v.z ∧ v.z ≤ 8796093022208)
theorem V3.m42.wide {v : V3} (h : v.m42) : v.m43 := by unfold V3.m42 at h; unfold V3.m43; omega
theorem shot_cast {g t : V3} {r : Int} {c : Cr} (hg : g.m43) (ht : g.n38 t) (hr : 1 ≤ r ∧ r ≤ 16384) (hc : mayC c = true) : castB (ballC g r) (wayZ g t) c = true ∧ mayC (ballC g r) = true := by
  unfold V3.m43 V3.n38 at *
  have h1 : (grn g).inB 16777216 = true := by rw [Pt.inB_iff]; unfold grn; dsimp only; omega
  have h2 : ((grn g).mov (wayZ g t)).inB 16777216 = true := by rw [Pt.inB_iff]; unfold grn wayZ grn Pt.mov Pt.sub; dsimp only; omega
  have h3 : (wayZ g t).inB 4194304 = true := by rw [Pt.inB_iff]; unfold wayZ grn Pt.sub; dsimp only; omega
  constructor
  · unfold castB goB ballC
    simp only [Bool.and_eq_true, decide_eq_true_eq, List.all_eq_true, List.length_singleton, List.length_nil, List.map_cons, List.map_nil, List.mem_singleton]
    refine ⟨⟨⟨⟨⟨⟨⟨⟨by omega, by omega⟩, fun p hp => (by rw [hp]; exact h1)⟩, by omega, fun p hp => (by cases hp)⟩, by omega, fun p hp => (by cases hp)⟩, by omega, by omega⟩, h3⟩, fun p hp => (by rw [hp]; exact h2)⟩, hc⟩
  · unfold mayC ballC
    simp only [Bool.and_eq_true, decide_eq_true_eq, List.all_eq_true, List.length_singleton, List.length_nil, List.mem_singleton]
    refine ⟨⟨⟨⟨⟨by omega, by omega⟩, fun p hp => (by rw [hp]; exact h1)⟩, by omega, fun p hp => (by cases hp)⟩, by omega, fun p hp => (by cases hp)⟩, by omega, by omega⟩
/-! ### A wall behind -/
theorem castF_all (a : Cr) (w : Pt) (b : Cr) : ∀ (n k : Nat) (x : Pt × Int), (∀ j : Nat, k < j → j ≤ k + n → 0 ≤ (apP (trailC a w (j : Int)) b).2) → (castF a w b n k x).1 = k + n
  | 0, k, x, _ => rfl
  | n + 1, k, x, h => by
    unfold castF
    have h1 := h (k + 1) (by omega) (by omega)
    rw [Int.natCast_add, Int.cast_ofNat_Int] at h1
    rw [if_neg (by omega), castF_all a w b n (k + 1) _ fun j h1 h2 => h j (by omega) (by omega)]
    omega
theorem told_tops {a b : Cr} {n : Pt} (hn : n ∈ both (candL a b)) : gapZ a.P b.P a.r b.r n ≤ (told a b).2 := by
  have hne : ∃ x, bestL (gapZ a.P b.P a.r b.r) none (both (candL a b)) = some x := by
    cases h : bestL (gapZ a.P b.P a.r b.r) none (both (candL a b)) with
    | some x => exact ⟨x, rfl⟩
    | none =>
      exfalso
      have key : ∀ (L : List Pt) (s : Bs), bestL (gapZ a.P b.P a.r b.r) s L = none → L = [] := by
        intro L
        induction L with
        | nil => intro _ _; rfl
        | cons z r ih =>
          intro s e
          have e2 : bestL (gapZ a.P b.P a.r b.r) (bestS (gapZ a.P b.P a.r b.r) s z) r = none := e
          have e3 := ih _ e2
          subst e3
          have e4 : bestS (gapZ a.P b.P a.r b.r) s z = none := e2
          unfold bestS at e4
          cases s with
          | none => cases e4
          | some x =>
            dsimp only at e4
            split at e4 <;> cases e4
      rw [key _ _ h] at hn
      cases hn
  obtain ⟨⟨m, h⟩, he⟩ := hne
  have h2 := (best_tops _ _ _ _ _ he).2 n hn
  have e : told a b = (m, h) := told_of he
  rw [e]
  exact h2
theorem short_neg {m : Int} (h : 1 ≤ m ∧ m ≤ 1048576) : Pt.short ⟨-m, 0, 0⟩ = ⟨-1, 0, 0⟩ := by
  rw [short_small (by rw [Pt.inB_iff]; dsimp only; omega)]
  have e : Pt.low ⟨-m, 0, 0⟩ = ⟨-1, 0, 0⟩ := by
    unfold Pt.low Pt.g Pt.by
    dsimp only
    have h1 : Nat.gcd (Nat.gcd (-m).natAbs (0 : Int).natAbs) (0 : Int).natAbs = m.natAbs := by simp
    rw [h1, if_neg (by omega)]
    have h2 : ((m.natAbs : Nat) : Int) = m := by omega
    rw [h2, Int.neg_tdiv, Int.tdiv_self (by omega)]
    simp
  rw [e]
  decide +kernel
theorem mem_both {L : List Pt} {p : Pt} (h : p ∈ L) (h0 : p.lng ≠ Pt.O) : p.lng ∈ both L := by
  induction L with
  | nil => cases h
  | cons q r ih =>
    unfold both
    rcases List.mem_cons.1 h with rfl | h
    · rw [if_neg h0]; exact List.mem_cons_self
    · split
      · exact ih h
      · exact List.mem_cons_of_mem _ (List.mem_cons_of_mem _ (ih h))
theorem wall_gap {p u : Pt} {P A E : List Pt} {r m : Int} (hP : P = [p] ∨ P = [p, u]) (hu : p.x ≤ u.x) (hm : 1 ≤ m ∧ m ≤ 1048576) (hr : r + 5 ≤ m) : 0 ≤ (told ⟨P, A, E, r⟩ ⟨[⟨p.x - m, p.y, p.z⟩], [], [], 5⟩).2 := by
  have el : Pt.lng ⟨-1, 0, 0⟩ = ⟨-1048576, 0, 0⟩ := by
    have := NM.lng_neg ⟨1, 0, 0⟩
    rw [ex_lng] at this
    exact this
  have ed : wayD p ⟨p.x - m, p.y, p.z⟩ = ⟨-1, 0, 0⟩ := by
    unfold wayD
    rw [← short_neg hm]
    congr 1
    unfold Pt.sub
    dsimp only
    congr 1 <;> omega
  have hc : (⟨-1, 0, 0⟩ : Pt) ∈ candL ⟨P, A, E, r⟩ ⟨[⟨p.x - m, p.y, p.z⟩], [], [], 5⟩ := by
    unfold candL
    refine List.mem_append_right _ (List.mem_append_right _ ?_)
    unfold wayL
    dsimp only
    rw [if_neg (by simp)]
    refine List.mem_flatMap.2 ⟨p, by rcases hP with rfl | rfl <;> simp, ?_⟩
    unfold wayR
    refine List.mem_flatMap.2 ⟨_, List.mem_singleton_self _, ?_⟩
    unfold wayG
    rw [ed]
    exact List.mem_cons_self
  have hb := mem_both hc (by rw [el]; decide)
  rw [el] at hb
  have ht := told_tops hb
  refine Int.le_trans ?_ ht
  obtain ⟨d1, d2, u1, u2⟩ := dn_x 1048576 (by omega)
  have hroom : room ⟨-1048576, 0, 0⟩ P [⟨p.x - m, p.y, p.z⟩] = m * 1048576 := by
    unfold room loP hiP
    rcases hP with rfl | rfl
    · simp [loK, hiK, pt, Pt.dot]
      omega
    · simp [loK, hiK, pt, Pt.dot]
      omega
  unfold gapZ gap0
  dsimp only
  rw [hroom, if_pos (by omega), u2, Int.mul_tdiv_cancel _ (by decide)]
  omega
theorem wall_holds {g t : V3} {r b : Int} (hg : g.m42) (ht : g.n38 t) (hx : g.x ≤ t.x) (hy : t.y = g.y) (hz : t.z = g.z) (hr : 1 ≤ r ∧ r ≤ 16384) (hb : 0 ≤ b ∧ b < 1000) : hK g t r [⟨[⟨(grn g).x - r - 9 - b, (grn g).y, (grn g).z⟩], [], [], 5⟩] = 16 := by
  unfold hK
  refine hold_all fun i hi hp => ?_
  have e : i = 0 := by simp at hi; exact hi
  subst e
  have e2 : cr [(⟨[⟨(grn g).x - r - 9 - b, (grn g).y, (grn g).z⟩], [], [], 5⟩ : Cr)] 0 = ⟨[⟨(grn g).x - r - 9 - b, (grn g).y, (grn g).z⟩], [], [], 5⟩ := rfl
  rw [e2] at hp ⊢
  have e3 : (grn g).x - r - 9 - b = (grn g).x - (r + 9 + b) := by omega
  rw [e3] at hp ⊢
  unfold holdP at hp
  rw [Bool.and_eq_true] at hp
  have hc := hp.1
  obtain ⟨hgo, hma, hmb⟩ := cast_parts hc
  have hw : wayZ g t = ⟨(grn t).x - (grn g).x, 0, 0⟩ := by
    unfold wayZ Pt.sub grn
    dsimp only
    rw [hy, hz, Int.sub_self, Int.sub_self]
  have h0 : 0 ≤ (grn t).x - (grn g).x := by unfold grn; dsimp only; omega
  have key : ∀ {P A E : List Pt} {u : Pt}, mayC ⟨P, A, E, r⟩ = true → (P = [grn g] ∨ P = [grn g, u]) → (grn g).x ≤ u.x → 0 ≤ (apP ⟨P, A, E, r⟩ ⟨[⟨(grn g).x - (r + 9 + b), (grn g).y, (grn g).z⟩], [], [], 5⟩).2 := fun {P A E u} hm hP hu => by
    unfold apP
    rw [hm, hmb, Bool.and_self, if_pos rfl]
    exact wall_gap hP hu (by omega) (by omega)
  unfold castR
  rw [hc, if_pos rfl, if_neg (by have := key (u := grn g) hma (Or.inl rfl) (Int.le_refl _); unfold ballC; omega)]
  rw [castF_all]
  intro j h1 h2
  have hm := trail_of hc (k := (j : Int)) (by omega)
  rw [trail_yes hgo (by omega)] at hm ⊢
  refine key (u := (grn g).mov (wayBy (wayZ g t) j)) hm (Or.inr rfl) ?_
  rw [hw]
  unfold Pt.mov wayBy
  dsimp only
  have := (part_between (x := (grn t).x - (grn g).x) (k := (j : Int)) (by omega)).1 h0
  omega
end Go.Proofs.YtablgiflakncfaaGreat
namespace Go.Proofs.YtablgiflakncfaaGreat
open Go.RowKit Go.Shelf
set_option linter.unusedVariables false

theorem Lies.grown {A B : World} {v : Value} {Ls : List Pt} {fb : Nat} (h : Lies A v Ls) (hg : A.grownBy B (some fb)) (hne : ∀ q n c, v = .slice (some q) n c → Ls ≠ [] → q.block ≠ fb) : Lies B v Ls := by
  obtain ⟨o, cap, e, h1, h2, h3⟩ := h.form
  refine ⟨o, cap, e, h1, h2, fun i hi => ?_⟩
  obtain ⟨g, off, e', a, b, c⟩ := h3 i hi
  have hf : g ≠ fb := hne ⟨g, off, none⟩ _ _ (by rw [e, e']) (fun e0 => by rw [e0] at hi; simp at hi)
  have hbl : B.heap[g]? = A.heap[g]? := hg.block g (World.block_lt_of_cell? _ _ a) (fun e => hf (by simpa using e))
  exact ⟨g, off, e', (World.cell?_of_block (w := A) hbl).trans a, (World.cell?_of_block (w := A) hbl).trans b, (World.cell?_of_block (w := A) hbl).trans c⟩
end Go.Proofs.YtablgiflakncfaaGreat
namespace Go.Proofs.YtablgiflakncfaaGreat
open Go.RowKit Go.Shelf
set_option linter.unusedVariables false

theorem setg9 (W : World) (b o : Nat) (u : Value) : W.grownBy (W.setCell ⟨b, o, none⟩ u) (some b) := ⟨rfl, rfl, rfl, by simp [World.setCell], fun k _ hk => Below.heap_setCell _ _ _ k (fun e => hk (by rw [e]))⟩
set_option maxHeartbeats 2000000 in
theorem rin18_any (x y z m : Int) (w : World) (hm : 0 ≤ m ∧ m ≤ 4611686018427387903) :
    Calls Tryz.prog 30 #[.int .i64 x, .int .i64 y, .int .i64 z, .int .i64 m] w fun e W => e = .returned (.bool (Pt.inB ⟨x, y, z⟩ m)) ∧ Below w.heap.size w W := by
  have HI : Hid (Pt.inB ⟨x, y, z⟩ m = decide ((-m ≤ x ∧ x ≤ m) ∧ (-m ≤ y ∧ y ≤ m) ∧ (-m ≤ z ∧ z ≤ m))) := rfl
  obtain ⟨R9, hR9⟩ : ∃ R9, Pt.inB ⟨x, y, z⟩ m = R9 := ⟨_, rfl⟩
  rw [hR9] at HI ⊢
  clear hR9
  obtain ⟨mm, hmm⟩ : ∃ mm, IntKind.i64.wrap (-m) = mm := ⟨_, rfl⟩
  have hm9 : mm = -m := by rw [← hmm, IntKind.wrap_i64]; omega
  rw [← hm9] at HI
  have HM : Hid _ := hm
  clear hm9 hm
  by_cases h1 : mm ≤ x
  · by_cases h2 : x ≤ m
    · by_cases h3 : mm ≤ y
      · by_cases h4 : y ≤ m
        · by_cases h5 : mm ≤ z
          · by_cases h6 : z ≤ m
            · have e9 : R9 = true := by rw [HI.out]; simp [h1, h2, h3, h4, h5, h6]
              subst e9
              go_enter Tryz.func30, Tryz.ntmps30
              go_wp2
              go_ret
              exact ⟨rfl, Below.refl _ _⟩
            · have e9 : R9 = false := by rw [HI.out]; simp [h6]
              subst e9
              go_enter Tryz.func30, Tryz.ntmps30
              go_wp2
              go_ret
              exact ⟨rfl, Below.refl _ _⟩
          · have e9 : R9 = false := by rw [HI.out]; simp [h5]
            subst e9
            go_enter Tryz.func30, Tryz.ntmps30
            go_wp2
            go_ret
            exact ⟨rfl, Below.refl _ _⟩
        · have e9 : R9 = false := by rw [HI.out]; simp [h4]
          subst e9
          go_enter Tryz.func30, Tryz.ntmps30
          go_wp2
          go_ret
          exact ⟨rfl, Below.refl _ _⟩
      · have e9 : R9 = false := by rw [HI.out]; simp [h3]
        subst e9
        go_enter Tryz.func30, Tryz.ntmps30
        go_wp2
        go_ret
        exact ⟨rfl, Below.refl _ _⟩
    · have e9 : R9 = false := by rw [HI.out]; simp [h2]
      subst e9
      go_enter Tryz.func30, Tryz.ntmps30
      go_wp2
      go_ret
      exact ⟨rfl, Below.refl _ _⟩
  · have e9 : R9 = false := by rw [HI.out]; simp [h1]
    subst e9
    go_enter Tryz.func30, Tryz.ntmps30
    go_wp2
    go_ret
    exact ⟨rfl, Below.refl _ _⟩

set_option maxHeartbeats 1000000 in
theorem rdown18_any (n : Int) (w : World) (hn : -4611686018427387904 ≤ n ∧ n ≤ 4611686018427387903) :
    Calls Tryz.prog 59 #[.int .i64 n] w fun e W => e = .returned (.int .i64 (n / 1048576)) ∧ W = w := by
  obtain ⟨d1, d2⟩ := down_is hn
  obtain ⟨r, hr⟩ : ∃ r, n / 1048576 = r := ⟨_, rfl⟩
  rw [hr] at d1 d2 ⊢
  have b1 : -4611686018427387904 ≤ n.tdiv 1048576 ∧ n.tdiv 1048576 ≤ 4611686018427387903 := by
    have e : (n.tdiv 1048576).natAbs = n.natAbs / 1048576 := Int.natAbs_tdiv n 1048576
    omega
  clear hr
  obtain ⟨t, ht⟩ : ∃ t, n.tdiv 1048576 = t := ⟨_, rfl⟩
  obtain ⟨u, hu⟩ : ∃ u, n.tmod 1048576 = u := ⟨_, rfl⟩
  have e1 : wrap64 (n.tdiv 1048576) = t := by rw [w64 (by omega) (by omega)]; exact ht
  rw [ht] at d1 d2 b1
  rw [hu] at d1 d2
  have e2 : wrap64 (t - 1) = t - 1 := w64 (by omega) (by omega)
  by_cases h : u < 0
  · have e3 : t - 1 = r := d1 h
    subst e3
    clear d1 d2 b1 hn ht
    go_enter Tryz.func59, Tryz.ntmps59
    go_wp2
    go_ret
    exact ⟨by simp [e1, e2], rfl⟩
  · have e3 : t = r := d2 h
    subst e3
    clear d1 d2 b1 hn ht
    go_enter Tryz.func59, Tryz.ntmps59
    go_wp2
    go_ret
    exact ⟨by simp, rfl⟩
set_option maxHeartbeats 4000000 in
set_option maxRecDepth 100000 in
theorem rgrn18_any (v : V3) (w : World) (hv : Pt.inB ⟨v.x, v.y, v.z⟩ 1125899906842624 = true) :
    Calls Tryz.prog 31 #[v.val] w fun e W => e = .returned (grn v).v ∧ Below w.heap.size w W := by
  rw [Pt.inB_iff] at hv
  obtain ⟨x, y, z⟩ := v
  dsimp only at hv
  have HDx : Hid (∀ w', Calls Tryz.prog 59 #[.int .i64 x] w' fun e W => e = .returned (.int .i64 (x / 1048576)) ∧ Below w'.heap.size w' W) := fun w' => (rdown18_any x w' (by omega)).mono (by rintro e W ⟨h1, rfl⟩; exact ⟨h1, Below.refl _ _⟩)
  have HDy : Hid (∀ w', Calls Tryz.prog 59 #[.int .i64 y] w' fun e W => e = .returned (.int .i64 (y / 1048576)) ∧ Below w'.heap.size w' W) := fun w' => (rdown18_any y w' (by omega)).mono (by rintro e W ⟨h1, rfl⟩; exact ⟨h1, Below.refl _ _⟩)
  have HDz : Hid (∀ w', Calls Tryz.prog 59 #[.int .i64 z] w' fun e W => e = .returned (.int .i64 (z / 1048576)) ∧ Below w'.heap.size w' W) := fun w' => (rdown18_any z w' (by omega)).mono (by rintro e W ⟨h1, rfl⟩; exact ⟨h1, Below.refl _ _⟩)
  unfold grn Pt.v
  dsimp only [V3.val]
  generalize x / 1048576 = gx at *
  generalize y / 1048576 = gy at *
  generalize z / 1048576 = gz at *
  clear hv
  obtain ⟨V, hV⟩ : ∃ V, V = (w.alloc (.cells #[.int .i64 x, .int .i64 y, .int .i64 z] 23)).alloc (.cells #[.int .i64 0, .int .i64 0, .int .i64 0] 45) := ⟨_, rfl⟩
  obtain ⟨vb, hvb⟩ : ∃ b, b = w.heap.size := ⟨_, rfl⟩
  obtain ⟨rb, hrb⟩ : ∃ b, b = w.heap.size + 1 := ⟨_, rfl⟩
  have k1 := n_after w (.cells #[.int .i64 x, .int .i64 y, .int .i64 z] 23)
  have k2 := n_after (w.alloc (.cells #[.int .i64 x, .int .i64 y, .int .i64 z] 23)) (.cells #[.int .i64 0, .int .i64 0, .int .i64 0] 45)
  have c1 := (CW.new w [.int .i64 x, .int .i64 y, .int .i64 z] 23).step k2
  have c2 := CW.new (w.alloc (.cells #[.int .i64 x, .int .i64 y, .int .i64 z] 23)) [.int .i64 0, .int .i64 0, .int .i64 0] 45
  rw [World.size_alloc, ← hrb] at c2
  rw [← hvb] at c1
  rw [← hV] at c1 c2
  have HB : Hid (Below w.heap.size w V) := by show Below _ _ _; rw [hV]; exact b_step k1 k2
  have HRB : Hid (w.heap.size ≤ rb) := by show _ ≤ _; omega
  obtain ⟨v0, _⟩ := c1 0 _ rfl
  obtain ⟨v1, _⟩ := c1 1 _ rfl
  obtain ⟨v2, _⟩ := c1 2 _ rfl
  obtain ⟨s0, sf0⟩ := c2 0 _ rfl
  obtain ⟨s1, sf1⟩ := c2 1 _ rfl
  obtain ⟨s2, sf2⟩ := c2 2 _ rfl
  clear k1 k2 c1 c2
  go_enter Tryz.func31, Tryz.ntmps31
  go_upto_region 1 with fail
  rw [← hV, ← hrb, ← hvb]
  clear hV hrb hvb
  refine RV.region_by (fun j v w => match j with | 0 => v = .pointer (some ⟨vb, 0, none⟩) | 1 => v = .int .i64 (x) | 2 => v = .int .i64 (gx) | 3 => v = .pointer (some ⟨vb, 1, none⟩) | 4 => v = .int .i64 (y) | 5 => v = .int .i64 (gy) | 6 => v = .pointer (some ⟨vb, 2, none⟩) | 7 => v = .int .i64 (z) | 8 => v = .int .i64 (gz) | 9 => v = .agg #[.int .i64 (gx), .int .i64 (gy), .int .i64 (gz)] | 10 => True | _ => True) (fun γ L w9 => (L 10 = false ∧ Below V.heap.size V w9) ∨ (L 10 = true ∧ ∃ w, Below V.heap.size V w ∧ w9 = (((w.setCell ⟨rb, 0, none⟩ (.int .i64 (gx))).setCell ⟨rb, 1, none⟩ (.int .i64 (gy))).setCell ⟨rb, 2, none⟩ (.int .i64 (gz))))) (by kernel_rfl) (by kernel_rfl) (by kernel_rfl) (by kernel_rfl) ?_ ?_ ?_
  · exact Or.inl ⟨rfl, (Below.refl _ V).drew⟩
  · generalize hD : dstOf _ = D
    generalize hWA : waitsFor _ = WA
    generalize hZ : Act.mk _ _ = Z
    obtain ⟨R, hR⟩ : ∃ R : Nat → Value → World → Prop, R = (fun j v w => match j with | 0 => v = .pointer (some ⟨vb, 0, none⟩) | 1 => v = .int .i64 (x) | 2 => v = .int .i64 (gx) | 3 => v = .pointer (some ⟨vb, 1, none⟩) | 4 => v = .int .i64 (y) | 5 => v = .int .i64 (gy) | 6 => v = .pointer (some ⟨vb, 2, none⟩) | 7 => v = .int .i64 (z) | 8 => v = .int .i64 (gz) | 9 => v = .agg #[.int .i64 (gx), .int .i64 (gy), .int .i64 (gz)] | 10 => True | _ => True) := ⟨_, rfl⟩
    rw [← hR]
    have d0 : D 0 = some 3 := by rw [← hD]; rfl
    have d1 : D 1 = some 4 := by rw [← hD]; rfl
    have d2 : D 2 = some 5 := by rw [← hD]; rfl
    have d3 : D 3 = some 6 := by rw [← hD]; rfl
    have d4 : D 4 = some 7 := by rw [← hD]; rfl
    have d5 : D 5 = some 8 := by rw [← hD]; rfl
    have d6 : D 6 = some 9 := by rw [← hD]; rfl
    have d7 : D 7 = some 10 := by rw [← hD]; rfl
    have d8 : D 8 = some 11 := by rw [← hD]; rfl
    have d9 : D 9 = some 12 := by rw [← hD]; rfl
    have r0 : ∀ v w, R 0 v w = (v = .pointer (some ⟨vb, 0, none⟩)) := fun v w => by rw [hR]; rfl
    have r1 : ∀ v w, R 1 v w = (v = .int .i64 (x)) := fun v w => by rw [hR]; rfl
    have r2 : ∀ v w, R 2 v w = (v = .int .i64 (gx)) := fun v w => by rw [hR]; rfl
    have r3 : ∀ v w, R 3 v w = (v = .pointer (some ⟨vb, 1, none⟩)) := fun v w => by rw [hR]; rfl
    have r4 : ∀ v w, R 4 v w = (v = .int .i64 (y)) := fun v w => by rw [hR]; rfl
    have r5 : ∀ v w, R 5 v w = (v = .int .i64 (gy)) := fun v w => by rw [hR]; rfl
    have r6 : ∀ v w, R 6 v w = (v = .pointer (some ⟨vb, 2, none⟩)) := fun v w => by rw [hR]; rfl
    have r7 : ∀ v w, R 7 v w = (v = .int .i64 (z)) := fun v w => by rw [hR]; rfl
    have r8 : ∀ v w, R 8 v w = (v = .int .i64 (gz)) := fun v w => by rw [hR]; rfl
    have r9 : ∀ v w, R 9 v w = (v = .agg #[.int .i64 (gx), .int .i64 (gy), .int .i64 (gz)]) := fun v w => by rw [hR]; rfl
    have r10 : ∀ v w, R 10 v w = (True) := fun v w => by rw [hR]; rfl
    have E1 : ∀ (γ : Nat → Value) (L : Nat → Bool) (a : Act) (w : World), RV.Held D WA R (fun γ L w9 => (L 10 = false ∧ Below V.heap.size V w9) ∨ (L 10 = true ∧ ∃ w, Below V.heap.size V w ∧ w9 = (((w.setCell ⟨rb, 0, none⟩ (.int .i64 (gx))).setCell ⟨rb, 1, none⟩ (.int .i64 (gy))).setCell ⟨rb, 2, none⟩ (.int .i64 (gz))))) Z γ L a w → a.tmps[1]? = some (.pointer (some ⟨vb, 0, none⟩)) := fun γ L a w hH => (hH.rest 1 (by rw [← hD]; exact RV.dst_free (by kernel_rfl))).trans (by rw [← hZ]; rfl)
    have E2 : ∀ (γ : Nat → Value) (L : Nat → Bool) (a : Act) (w : World), RV.Held D WA R (fun γ L w9 => (L 10 = false ∧ Below V.heap.size V w9) ∨ (L 10 = true ∧ ∃ w, Below V.heap.size V w ∧ w9 = (((w.setCell ⟨rb, 0, none⟩ (.int .i64 (gx))).setCell ⟨rb, 1, none⟩ (.int .i64 (gy))).setCell ⟨rb, 2, none⟩ (.int .i64 (gz))))) Z γ L a w → a.tmps[2]? = some (.pointer (some ⟨rb, 0, none⟩)) := fun γ L a w hH => (hH.rest 2 (by rw [← hD]; exact RV.dst_free (by kernel_rfl))).trans (by rw [← hZ]; rfl)
    have K : ∀ j v w w', R j v w → R j v w' := by rw [hR]; intro j v w w' h; exact h
    have A_10_1 : WA 10 1 := by rw [← hWA]; exact ⟨_, rfl, ⟨1, .phase⟩, by simp, rfl, rfl⟩
    have A_10_2 : WA 10 2 := by rw [← hWA]; exact ⟨_, rfl, ⟨2, .phase⟩, by simp, rfl, rfl⟩
    have A_10_4 : WA 10 4 := by rw [← hWA]; exact ⟨_, rfl, ⟨4, .phase⟩, by simp, rfl, rfl⟩
    have A_10_5 : WA 10 5 := by rw [← hWA]; exact ⟨_, rfl, ⟨5, .phase⟩, by simp, rfl, rfl⟩
    have A_10_7 : WA 10 7 := by rw [← hWA]; exact ⟨_, rfl, ⟨7, .phase⟩, by simp, rfl, rfl⟩
    have A_10_8 : WA 10 8 := by rw [← hWA]; exact ⟨_, rfl, ⟨8, .phase⟩, by simp, rfl, rfl⟩
    clear hD hWA hZ hR
    refine RV.AllDo.cons 0 (RV.does_pure (fun γ v L w hl h => by rw [RV.more_ne (L := L) (i := 0) (j := 10) (by decide)]; exact h) (fun γ L a w hH hl hA => by have e0 := E1 γ L a w hH; exact ⟨.pointer (some ⟨vb, 0, none⟩), by simp [execOp, go_sem, e0], (r0 _ _).mpr rfl⟩)) ?_
    refine RV.AllDo.cons 1 (RV.does_pure (fun γ v L w hl h => by rw [RV.more_ne (L := L) (i := 1) (j := 10) (by decide)]; exact h) (fun γ L a w hH hl hA => by have l0 : L 0 = true := hA ⟨0, .data⟩ (by simp) rfl; have e0 := hH.slot 0 3 d0 l0; have g0 := hH.holds 0 l0; rw [r0] at g0; rw [g0] at e0; have hB9 := early9 hH.glob (RV.not_yet hH A_10_1 hl); have z0 := c_after hB9 v0; exact ⟨.int .i64 (x), by simp [execOp, go_sem, e0, z0], (r1 _ _).mpr rfl⟩)) ?_
    refine RV.AllDo.cons 2 (RV.does_call (fun γ L a w hH hl hA => by have l0 : L 1 = true := hA ⟨1, .data⟩ (by simp) rfl; have e0 := hH.slot 1 4 d1 l0; have g0 := hH.holds 1 l0; rw [r1] at g0; rw [g0] at e0; have hB9 := early9 hH.glob (RV.not_yet hH A_10_2 hl); exact ⟨59, #[.int .i64 (x)], by simp [go_sem, e0], Calls.mono (HDx.out w) (by rintro e w2 ⟨rfl, hb⟩; exact ⟨_, rfl, (r2 _ _).mpr rfl, fun j v _ h => K j v _ _ h, Or.inl ⟨by rw [RV.more_ne (L := L) (i := 2) (j := 10) (by decide)]; exact RV.not_yet hH A_10_2 hl, hB9.trans (hb.mono hB9.size)⟩⟩)⟩)) ?_
    refine RV.AllDo.cons 3 (RV.does_pure (fun γ v L w hl h => by rw [RV.more_ne (L := L) (i := 3) (j := 10) (by decide)]; exact h) (fun γ L a w hH hl hA => by have e0 := E1 γ L a w hH; exact ⟨.pointer (some ⟨vb, 1, none⟩), by simp [execOp, go_sem, e0], (r3 _ _).mpr rfl⟩)) ?_
    refine RV.AllDo.cons 4 (RV.does_pure (fun γ v L w hl h => by rw [RV.more_ne (L := L) (i := 4) (j := 10) (by decide)]; exact h) (fun γ L a w hH hl hA => by have l0 : L 3 = true := hA ⟨3, .data⟩ (by simp) rfl; have e0 := hH.slot 3 6 d3 l0; have g0 := hH.holds 3 l0; rw [r3] at g0; rw [g0] at e0; have hB9 := early9 hH.glob (RV.not_yet hH A_10_4 hl); have z0 := c_after hB9 v1; exact ⟨.int .i64 (y), by simp [execOp, go_sem, e0, z0], (r4 _ _).mpr rfl⟩)) ?_
    refine RV.AllDo.cons 5 (RV.does_call (fun γ L a w hH hl hA => by have l0 : L 4 = true := hA ⟨4, .data⟩ (by simp) rfl; have e0 := hH.slot 4 7 d4 l0; have g0 := hH.holds 4 l0; rw [r4] at g0; rw [g0] at e0; have hB9 := early9 hH.glob (RV.not_yet hH A_10_5 hl); exact ⟨59, #[.int .i64 (y)], by simp [go_sem, e0], Calls.mono (HDy.out w) (by rintro e w2 ⟨rfl, hb⟩; exact ⟨_, rfl, (r5 _ _).mpr rfl, fun j v _ h => K j v _ _ h, Or.inl ⟨by rw [RV.more_ne (L := L) (i := 5) (j := 10) (by decide)]; exact RV.not_yet hH A_10_5 hl, hB9.trans (hb.mono hB9.size)⟩⟩)⟩)) ?_
    refine RV.AllDo.cons 6 (RV.does_pure (fun γ v L w hl h => by rw [RV.more_ne (L := L) (i := 6) (j := 10) (by decide)]; exact h) (fun γ L a w hH hl hA => by have e0 := E1 γ L a w hH; exact ⟨.pointer (some ⟨vb, 2, none⟩), by simp [execOp, go_sem, e0], (r6 _ _).mpr rfl⟩)) ?_
    refine RV.AllDo.cons 7 (RV.does_pure (fun γ v L w hl h => by rw [RV.more_ne (L := L) (i := 7) (j := 10) (by decide)]; exact h) (fun γ L a w hH hl hA => by have l0 : L 6 = true := hA ⟨6, .data⟩ (by simp) rfl; have e0 := hH.slot 6 9 d6 l0; have g0 := hH.holds 6 l0; rw [r6] at g0; rw [g0] at e0; have hB9 := early9 hH.glob (RV.not_yet hH A_10_7 hl); have z0 := c_after hB9 v2; exact ⟨.int .i64 (z), by simp [execOp, go_sem, e0, z0], (r7 _ _).mpr rfl⟩)) ?_
    refine RV.AllDo.cons 8 (RV.does_call (fun γ L a w hH hl hA => by have l0 : L 7 = true := hA ⟨7, .data⟩ (by simp) rfl; have e0 := hH.slot 7 10 d7 l0; have g0 := hH.holds 7 l0; rw [r7] at g0; rw [g0] at e0; have hB9 := early9 hH.glob (RV.not_yet hH A_10_8 hl); exact ⟨59, #[.int .i64 (z)], by simp [go_sem, e0], Calls.mono (HDz.out w) (by rintro e w2 ⟨rfl, hb⟩; exact ⟨_, rfl, (r8 _ _).mpr rfl, fun j v _ h => K j v _ _ h, Or.inl ⟨by rw [RV.more_ne (L := L) (i := 8) (j := 10) (by decide)]; exact RV.not_yet hH A_10_8 hl, hB9.trans (hb.mono hB9.size)⟩⟩)⟩)) ?_
    refine RV.AllDo.cons 9 (RV.does_pure (fun γ v L w hl h => by rw [RV.more_ne (L := L) (i := 9) (j := 10) (by decide)]; exact h) (fun γ L a w hH hl hA => by have l0 : L 2 = true := hA ⟨2, .data⟩ (by simp) rfl; have e0 := hH.slot 2 5 d2 l0; have g0 := hH.holds 2 l0; rw [r2] at g0; rw [g0] at e0; have l1 : L 5 = true := hA ⟨5, .data⟩ (by simp) rfl; have e1 := hH.slot 5 8 d5 l1; have g1 := hH.holds 5 l1; rw [r5] at g1; rw [g1] at e1; have l2 : L 8 = true := hA ⟨8, .data⟩ (by simp) rfl; have e2 := hH.slot 8 11 d8 l2; have g2 := hH.holds 8 l2; rw [r8] at g2; rw [g2] at e2; exact ⟨.agg #[.int .i64 (gx), .int .i64 (gy), .int .i64 (gz)], by simp [execOp, go_sem, e0, e1, e2], (r9 _ _).mpr rfl⟩)) ?_
    refine RV.AllDo.cons 10 (RV.does_store (fun γ L a w hH hl hA => by have e0 := E2 γ L a w hH; have l1 : L 9 = true := hA ⟨9, .data⟩ (by simp) rfl; have e1 := hH.slot 9 12 d9 l1; have g1 := hH.holds 9 l1; rw [r9] at g1; rw [g1] at e1; have hB9 := early9 hH.glob hl; have z0 := c_after hB9 s0; have zf0 := f_after hB9 s0 sf0; have z1 := c_after hB9 s1; have zf1 := f_after hB9 s1 sf1; have z2 := c_after hB9 s2; have zf2 := f_after hB9 s2 sf2; exact ⟨(((w.setCell ⟨rb, 0, none⟩ (.int .i64 (gx))).setCell ⟨rb, 1, none⟩ (.int .i64 (gy))).setCell ⟨rb, 2, none⟩ (.int .i64 (gz))), by simp [execOp, go_sem, e0, e1, z0, zf0, z1, zf1, z2, zf2], (r10 _ _).mpr trivial, fun j v _ h => K j v _ _ h, Or.inr ⟨RV.more_self, w, hB9, rfl⟩⟩)) ?_
    exact RV.AllDo.nil
  · intro γ a5 w5 L9 hL hLo hH
    have ha := RV.held_act hH hL (by kernel_rfl) (by kernel_rfl)
    obtain ⟨w8, hb8, rfl⟩ := late9 hH.glob (hL 10 (by decide))
    have y0 : γ 0 = .pointer (some ⟨vb, 0, none⟩) := hH.holds 0 (hL 0 (by decide))
    have y1 : γ 1 = .int .i64 (x) := hH.holds 1 (hL 1 (by decide))
    have y2 : γ 2 = .int .i64 (gx) := hH.holds 2 (hL 2 (by decide))
    have y3 : γ 3 = .pointer (some ⟨vb, 1, none⟩) := hH.holds 3 (hL 3 (by decide))
    have y4 : γ 4 = .int .i64 (y) := hH.holds 4 (hL 4 (by decide))
    have y5 : γ 5 = .int .i64 (gy) := hH.holds 5 (hL 5 (by decide))
    have y6 : γ 6 = .pointer (some ⟨vb, 2, none⟩) := hH.holds 6 (hL 6 (by decide))
    have y7 : γ 7 = .int .i64 (z) := hH.holds 7 (hL 7 (by decide))
    have y8 : γ 8 = .int .i64 (gz) := hH.holds 8 (hL 8 (by decide))
    have y9 : γ 9 = .agg #[.int .i64 (gx), .int .i64 (gy), .int .i64 (gz)] := hH.holds 9 (hL 9 (by decide))
    rw [ha]
    clear ha hH hL hLo
    simp only [RV.putAll, Act.put, List.setIfInBounds_toArray, List.set_cons_zero, List.set_cons_succ, Nat.zero_add, Nat.reduceAdd, y0, y1, y2, y3, y4, y5, y6, y7, y8, y9]
    clear y0 y1 y2 y3 y4 y5 y6 y7 y8 y9
    have y0 := c_after hb8 s0
    have y1 := c_after hb8 s1
    have y2 := c_after hb8 s2
    go_wp2_with (fail)
    exact bodyPost_ret (v := .agg #[.int .i64 gx, .int .i64 gy, .int .i64 gz]) (by simp [results, Tryz.results31, go_sem, y0, y1, y2]) rfl ⟨rfl, (((b_step HB.out hb8).setCell HRB.out _).setCell HRB.out _).setCell HRB.out _⟩
def wayOk (f t : V3) : Bool := Pt.inB ⟨f.x, f.y, f.z⟩ 1125899906842624 && Pt.inB ⟨t.x, t.y, t.z⟩ 1125899906842624
set_option maxHeartbeats 8000000 in
set_option maxRecDepth 100000 in
theorem rway18_any (f t : V3) (r : Int) (W : World) :
    Calls Tryz.prog 13 #[f.val, t.val, .int .i64 r] W fun e W' => Below W.heap.size W W' ∧ (wayOk f t = false → e = .returned (.tuple #[.agg #[.slice none 0 0, .slice none 0 0, .slice none 0 0, .int .i64 0], .agg #[.int .i64 0, .int .i64 0, .int .i64 0], .bool false])) ∧ (wayOk f t = true → ∃ g : Nat, e = .returned (.tuple #[.agg #[.slice (some ⟨g, 0, none⟩) 1 1, .slice none 0 0, .slice none 0 0, .int .i64 r], (wayZ f t).v, .bool ((wayZ f t).inB 4194304 && mayC (ballC f r))]) ∧ Lies W' (.slice (some ⟨g, 0, none⟩) 1 1) [grn f]) := by
  have HIN : Hid _ := fun (v : V3) w' => rin18_any v.x v.y v.z 1125899906842624 w' (by decide)
  have HIW : Hid _ := fun w' => rin18_any (wayZ f t).x (wayZ f t).y (wayZ f t).z 4194304 w' (by decide)
  have HGF : Hid _ := fun h w' => rgrn18_any f w' h
  have HGT : Hid _ := fun h w' => rgrn18_any t w' h
  have HMY : Hid _ := fun (pv : Value) (w' : World) (h : Lies w' pv [grn f]) => rmay9_any (ballC f r) pv (.slice none 0 0) (.slice none 0 0) w' h (lies_nil9 _) (lies_nil9 _)
  have HWO : Hid (wayOk f t = (Pt.inB ⟨f.x, f.y, f.z⟩ 1125899906842624 && Pt.inB ⟨t.x, t.y, t.z⟩ 1125899906842624)) := rfl
  have HBF := HIN.out f
  have HBT := HIN.out t
  have HSM : Hid (Pt.inB ⟨f.x, f.y, f.z⟩ 1125899906842624 = true → Pt.inB ⟨t.x, t.y, t.z⟩ 1125899906842624 = true → (grn f).inB 1073741824 = true ∧ (grn t).inB 1073741824 = true) := fun h1 h2 => by
    simp only [Pt.inB_iff] at *
    unfold grn
    dsimp only at *
    omega
  have HWZ : Hid (wayZ f t = ⟨(grn t).x - (grn f).x, (grn t).y - (grn f).y, (grn t).z - (grn f).z⟩) := rfl
  have HBA : Hid (ballC f r = ⟨[grn f], [], [], r⟩) := rfl
  generalize wayOk f t = ok at *
  generalize wayZ f t = wy at *
  generalize ballC f r = bc at *
  generalize grn f = gf at *
  generalize grn t = gt at *
  generalize Pt.inB ⟨f.x, f.y, f.z⟩ 1125899906842624 = b1 at *
  generalize Pt.inB ⟨t.x, t.y, t.z⟩ 1125899906842624 = b2 at *
  have HBF : Hid _ := HBF
  have HBT : Hid _ := HBT
  clear HIN
  obtain ⟨V, hV⟩ : ∃ V, V = ((((W.alloc (.cells #[.int .i64 f.x, .int .i64 f.y, .int .i64 f.z] 23)).alloc (.cells #[.int .i64 t.x, .int .i64 t.y, .int .i64 t.z] 23)).alloc (.cells #[.slice none 0 0, .slice none 0 0, .slice none 0 0, .int .i64 0] 28)).alloc (.cells #[.int .i64 0, .int .i64 0, .int .i64 0] 45)) := ⟨_, rfl⟩
  have hb0 := n_after W (.cells #[.int .i64 f.x, .int .i64 f.y, .int .i64 f.z] 23)
  have hb1 := n_after (W.alloc (.cells #[.int .i64 f.x, .int .i64 f.y, .int .i64 f.z] 23)) (.cells #[.int .i64 t.x, .int .i64 t.y, .int .i64 t.z] 23)
  have hb2 := n_after ((W.alloc (.cells #[.int .i64 f.x, .int .i64 f.y, .int .i64 f.z] 23)).alloc (.cells #[.int .i64 t.x, .int .i64 t.y, .int .i64 t.z] 23)) (.cells #[.slice none 0 0, .slice none 0 0, .slice none 0 0, .int .i64 0] 28)
  have hb3 := n_after (((W.alloc (.cells #[.int .i64 f.x, .int .i64 f.y, .int .i64 f.z] 23)).alloc (.cells #[.int .i64 t.x, .int .i64 t.y, .int .i64 t.z] 23)).alloc (.cells #[.slice none 0 0, .slice none 0 0, .slice none 0 0, .int .i64 0] 28)) (.cells #[.int .i64 0, .int .i64 0, .int .i64 0] 45)
  have Cf : CW V (W.heap.size) [.int .i64 f.x, .int .i64 f.y, .int .i64 f.z] := by
    have h9 := (((CW.new W [.int .i64 f.x, .int .i64 f.y, .int .i64 f.z] 23).step hb1).step hb2).step hb3
    rw [hV]; exact h9
  have Ct : CW V (W.heap.size + 1) [.int .i64 t.x, .int .i64 t.y, .int .i64 t.z] := by
    have h9 := ((CW.new (W.alloc (.cells #[.int .i64 f.x, .int .i64 f.y, .int .i64 f.z] 23)) [.int .i64 t.x, .int .i64 t.y, .int .i64 t.z] 23).step hb2).step hb3
    simp only [World.size_alloc] at h9
    rw [hV]; exact h9
  have Cc : CW V (W.heap.size + 1 + 1) [.slice none 0 0, .slice none 0 0, .slice none 0 0, .int .i64 0] := by
    have h9 := (CW.new ((W.alloc (.cells #[.int .i64 f.x, .int .i64 f.y, .int .i64 f.z] 23)).alloc (.cells #[.int .i64 t.x, .int .i64 t.y, .int .i64 t.z] 23)) [.slice none 0 0, .slice none 0 0, .slice none 0 0, .int .i64 0] 28).step hb3
    simp only [World.size_alloc] at h9
    rw [hV]; exact h9
  have Cw : CW V (W.heap.size + 1 + 1 + 1) [.int .i64 0, .int .i64 0, .int .i64 0] := by
    have h9 := CW.new (((W.alloc (.cells #[.int .i64 f.x, .int .i64 f.y, .int .i64 f.z] 23)).alloc (.cells #[.int .i64 t.x, .int .i64 t.y, .int .i64 t.z] 23)).alloc (.cells #[.slice none 0 0, .slice none 0 0, .slice none 0 0, .int .i64 0] 28)) [.int .i64 0, .int .i64 0, .int .i64 0] 45
    simp only [World.size_alloc] at h9
    rw [hV]; exact h9
  have hB : Below W.heap.size W V := by rw [hV]; exact (b_step (b_step (b_step hb0 hb1) hb2) hb3)
  clear hb0 hb1 hb2 hb3
  have HB : Hid _ := hB
  clear hB
  go_enter Tryz.func13, Tryz.ntmps13
  go_upto_region 1 with fail
  rw [← hV]
  clear hV
  obtain ⟨pw, hpw⟩ : ∃ p, p = W.heap.size + 1 + 1 + 1 := ⟨_, rfl⟩
  obtain ⟨pc, hpc⟩ : ∃ p, p = W.heap.size + 1 + 1 := ⟨_, rfl⟩
  obtain ⟨pt, hpt⟩ : ∃ p, p = W.heap.size + 1 := ⟨_, rfl⟩
  obtain ⟨pf, hpf⟩ : ∃ p, p = W.heap.size := ⟨_, rfl⟩
  rw [← hpw] at Cw
  rw [← hpc] at Cc
  rw [← hpt] at Ct
  rw [← hpf] at Cf
  rw [← hpw, ← hpc, ← hpt, ← hpf]
  have HPX : Hid ((pf = W.heap.size ∧ pt = W.heap.size + 1) ∧ pc = W.heap.size + 1 + 1 ∧ pw = W.heap.size + 1 + 1 + 1) := ⟨⟨hpf, hpt⟩, hpc, hpw⟩
  clear hpf hpt hpc hpw
  have Cf : Hid (CW _ _ _) := Cf
  have Ct : Hid (CW _ _ _) := Ct
  have Cc : Hid (CW _ _ _) := Cc
  have Cw : Hid (CW _ _ _) := Cw
  have f0 := (Cf.out 0 _ rfl).1
  have f1 := (Cf.out 1 _ rfl).1
  have f2 := (Cf.out 2 _ rfl).1
  have t0 := (Ct.out 0 _ rfl).1
  have t1 := (Ct.out 1 _ rfl).1
  have t2 := (Ct.out 2 _ rfl).1
  go_wp2_with (fail)
  refine Calls.mono (HBF.out _) ?_
  rintro e V1 ⟨rfl, hb⟩
  have HB : Hid _ := b_step HB.out hb
  have Cf : Hid (CW _ _ _) := Cf.out.step hb
  have Ct : Hid (CW _ _ _) := Ct.out.step hb
  have Cc : Hid (CW _ _ _) := Cc.out.step hb
  have Cw : Hid (CW _ _ _) := Cw.out.step hb
  clear hb f0 f1 f2 t0 t1 t2 HBF
  have f0 := (Cf.out 0 _ rfl).1
  have f1 := (Cf.out 1 _ rfl).1
  have f2 := (Cf.out 2 _ rfl).1
  have t0 := (Ct.out 0 _ rfl).1
  have t1 := (Ct.out 1 _ rfl).1
  have t2 := (Ct.out 2 _ rfl).1
  go_wp2_with (fail)
  refine Calls.mono (HBT.out _) ?_
  rintro e V2 ⟨rfl, hb⟩
  have HB : Hid _ := b_step HB.out hb
  have Cf : Hid (CW _ _ _) := Cf.out.step hb
  have Ct : Hid (CW _ _ _) := Ct.out.step hb
  have Cc : Hid (CW _ _ _) := Cc.out.step hb
  have Cw : Hid (CW _ _ _) := Cw.out.step hb
  clear hb f0 f1 f2 t0 t1 t2 HBT
  by_cases hbb : (b1 && b2) = true
  · have hok : ok = true := by rw [HWO.out]; exact hbb
    obtain ⟨rfl, rfl⟩ : b1 = true ∧ b2 = true := by simpa using hbb
    subst hok
    obtain ⟨gxf, gxt⟩ := HSM.out rfl rfl
    have HG1 : Hid _ := HGF.out rfl
    have HG2 : Hid _ := HGT.out rfl
    clear HGF HGT
    dsimp only [V3.val] at HG1 HG2
    obtain ⟨gx, gy, gz⟩ := gf
    obtain ⟨hx, hy, hz⟩ := gt
    rw [Pt.inB_iff] at gxf gxt
    dsimp only at *
    obtain ⟨wx, hwx⟩ : ∃ x, hx - gx = x := ⟨_, rfl⟩
    have w_x : IntKind.i64.wrap (hx - gx) = wx := by rw [IntKind.wrap_i64]; omega
    obtain ⟨wq, hwq⟩ : ∃ x, hy - gy = x := ⟨_, rfl⟩
    have w_y : IntKind.i64.wrap (hy - gy) = wq := by rw [IntKind.wrap_i64]; omega
    obtain ⟨wz, hwz⟩ : ∃ x, hz - gz = x := ⟨_, rfl⟩
    have w_z : IntKind.i64.wrap (hz - gz) = wz := by rw [IntKind.wrap_i64]; omega
    have hwy : wy = ⟨wx, wq, wz⟩ := by rw [HWZ.out, hwx, hwq, hwz]
    subst hwy
    clear gxf gxt hwx hwq hwz HWZ HWO HSM hbb
    unfold Pt.v at *
    dsimp only at *
    have f0 := (Cf.out 0 _ rfl).1
    have f1 := (Cf.out 1 _ rfl).1
    have f2 := (Cf.out 2 _ rfl).1
    go_wp2_with (fail)
    refine Calls.mono (HG1.out _) ?_
    rintro e V3 ⟨rfl, hb⟩
    have hb3 := b_step hb (n_after V3 (.cells #[.int .i64 gx, .int .i64 gy, .int .i64 gz] 45))
    obtain ⟨V4, hV4⟩ : ∃ V, V = V3.alloc (.cells #[.int .i64 gx, .int .i64 gy, .int .i64 gz] 45) := ⟨_, rfl⟩
    obtain ⟨gb, hgb⟩ : ∃ b, b = V3.heap.size := ⟨_, rfl⟩
    have cg := CW.new V3 [.int .i64 gx, .int .i64 gy, .int .i64 gz] 45
    rw [← hgb, ← hV4] at cg
    rw [← hV4] at hb3
    have CG : Hid (CW _ _ _) := cg
    have HB : Hid _ := b_step HB.out hb3
    have Ct : Hid (CW _ _ _) := Ct.out.step hb3
    have Cc : Hid (CW _ _ _) := Cc.out.step hb3
    have Cw : Hid (CW _ _ _) := Cw.out.step hb3
    clear hb hb3 cg f0 f1 f2 HG1 Cf
    go_upto_region 6 with fail
    rw [← hV4, ← hgb]
    clear hV4 hgb
    have t0 := (Ct.out 0 _ rfl).1
    have t1 := (Ct.out 1 _ rfl).1
    have t2 := (Ct.out 2 _ rfl).1
    go_wp2_with (fail)
    refine Calls.mono (HG2.out _) ?_
    rintro e V5 ⟨rfl, hb⟩
    have hb3 := b_step hb (n_after V5 (.cells #[.int .i64 hx, .int .i64 hy, .int .i64 hz] 45))
    obtain ⟨V6, hV6⟩ : ∃ V, V = V5.alloc (.cells #[.int .i64 hx, .int .i64 hy, .int .i64 hz] 45) := ⟨_, rfl⟩
    obtain ⟨hb_, hhb⟩ : ∃ b, b = V5.heap.size := ⟨_, rfl⟩
    have cg := CW.new V5 [.int .i64 hx, .int .i64 hy, .int .i64 hz] 45
    rw [← hhb, ← hV6] at cg
    rw [← hV6] at hb3
    have CH : Hid (CW _ _ _) := cg
    have HB : Hid _ := b_step HB.out hb3
    have CG : Hid (CW _ _ _) := CG.out.step hb3
    have Cc : Hid (CW _ _ _) := Cc.out.step hb3
    have Cw : Hid (CW _ _ _) := Cw.out.step hb3
    clear hb hb3 cg t0 t1 t2 HG2 Ct
    go_upto_region 7 with fail
    rw [← hV6, ← hhb]
    clear hV6 hhb
    obtain ⟨V7, hV7⟩ : ∃ V, V = (V6.alloc (.cells #[.int .i64 gx, .int .i64 gy, .int .i64 gz] 45)).alloc (.cells #[.slice (some ⟨V6.heap.size, 0, none⟩) 1 1, .slice none 0 0, .slice none 0 0, .int .i64 r] 28) := ⟨_, rfl⟩
    obtain ⟨sg, hsg⟩ : ∃ b, b = V6.heap.size := ⟨_, rfl⟩
    obtain ⟨cb, hcb⟩ : ∃ b, b = V6.heap.size + 1 := ⟨_, rfl⟩
    have HSG : Hid ((sg ≠ pc ∧ sg ≠ pw) ∧ cb ≠ pc ∧ cb ≠ pw) := by have h1 := CW.lt Cc.out; have h2 := CW.lt Cw.out; show _ ∧ _; omega
    have k1 := n_after V6 (.cells #[.int .i64 gx, .int .i64 gy, .int .i64 gz] 45)
    have k2 := n_after (V6.alloc (.cells #[.int .i64 gx, .int .i64 gy, .int .i64 gz] 45)) (.cells #[.slice (some ⟨V6.heap.size, 0, none⟩) 1 1, .slice none 0 0, .slice none 0 0, .int .i64 r] 28)
    have c1 := (Cel.new V6 [.int .i64 gx, .int .i64 gy, .int .i64 gz] 45).step k2
    have c2 := CW.new (V6.alloc (.cells #[.int .i64 gx, .int .i64 gy, .int .i64 gz] 45)) [.slice (some ⟨V6.heap.size, 0, none⟩) 1 1, .slice none 0 0, .slice none 0 0, .int .i64 r] 28
    rw [World.size_alloc, ← hcb, ← hsg] at c2
    rw [← hsg] at c1 hV7
    rw [← hV7] at c1 c2
    have hb3 : Below V6.heap.size V6 V7 := by rw [hV7, hsg]; exact b_step k1 k2
    have LG : Hid (Lies V7 (.slice (some ⟨sg, 0, none⟩) 1 1) [⟨gx, gy, gz⟩]) := lies_one9 c1
    have CB : Hid (CW _ _ _) := c2
    have HB : Hid _ := b_step HB.out hb3
    have CG7 : Hid (CW _ _ _) := CG.out.step hb3
    have CH : Hid (CW _ _ _) := CH.out.step hb3
    have Cc : Hid (CW _ _ _) := Cc.out.step hb3
    have Cw : Hid (CW _ _ _) := Cw.out.step hb3
    have g0 := (CG.out 0 _ rfl).1
    have g1 := (CG.out 1 _ rfl).1
    have g2 := (CG.out 2 _ rfl).1
    clear k1 k2 c1 c2 hb3
    go_upto_region 8 with fail
    rw [← hcb, ← hsg, ← hV7]
    clear hV7 hsg hcb g0 g1 g2 CG
    obtain ⟨V8, hV8⟩ : ∃ V, V = V7.alloc (.cells #[.int .i64 wx, .int .i64 wq, .int .i64 wz] 45) := ⟨_, rfl⟩
    obtain ⟨yb, hyb⟩ : ∃ b, b = V7.heap.size := ⟨_, rfl⟩
    have HYC : Hid (yb ≠ pc ∧ yb ≠ pw) := by have h1 := CW.lt Cc.out; have h2 := CW.lt Cw.out; show _ ∧ _; omega
    have hb3 : Below V7.heap.size V7 V8 := by rw [hV8]; exact n_after _ _
    have c1 : CW V8 yb [.int .i64 wx, .int .i64 wq, .int .i64 wz] := by rw [hV8, hyb]; exact CW.new V7 [.int .i64 wx, .int .i64 wq, .int .i64 wz] 45
    have CY : Hid (CW _ _ _) := c1
    have g0 := (CG7.out 0 _ rfl).1
    have h0 := (CH.out 0 _ rfl).1
    have g1 := (CG7.out 1 _ rfl).1
    have h1 := (CH.out 1 _ rfl).1
    have g2 := (CG7.out 2 _ rfl).1
    have h2 := (CH.out 2 _ rfl).1
    have LG : Hid _ := LG.out.below hb3
    have CB : Hid (CW _ _ _) := CB.out.step hb3
    have HB : Hid _ := b_step HB.out hb3
    have Cc : Hid (CW _ _ _) := Cc.out.step hb3
    have Cw : Hid (CW _ _ _) := Cw.out.step hb3
    clear hb3 c1
    go_upto_region 9 with fail
    rw [← hV8, ← hyb]
    clear hV8 hyb g0 g1 g2 h0 h1 h2 CG7 CH
    have y0 := (CY.out 0 _ rfl).1
    have y1 := (CY.out 1 _ rfl).1
    have y2 := (CY.out 2 _ rfl).1
    go_wp2_with (fail)
    refine Calls.mono (HIW.out _) ?_
    rintro e V9 ⟨rfl, hb⟩
    have LG : Hid _ := LG.out.below hb
    have CB : Hid (CW _ _ _) := CB.out.step hb
    have CY : Hid (CW _ _ _) := CY.out.step hb
    have HB : Hid _ := b_step HB.out hb
    have Cc : Hid (CW _ _ _) := Cc.out.step hb
    have Cw : Hid (CW _ _ _) := Cw.out.step hb
    clear hb y0 y1 y2 HIW
    have HM9 : Hid _ := HMY.out _ V9 LG.out
    unfold coreA at HM9
    have hr9 : bc.r = r := by rw [HBA.out]
    rw [hr9] at HM9
    clear hr9 HMY HBA
    have b0 := (CB.out 0 _ rfl).1
    have b1 := (CB.out 1 _ rfl).1
    have b2 := (CB.out 2 _ rfl).1
    have b3 := (CB.out 3 _ rfl).1
    go_wp2_with (fail)
    refine Calls.mono HM9.out ?_
    rintro e Va ⟨rfl, hb⟩
    have LG : Hid _ := LG.out.below hb
    have CB : Hid (CW _ _ _) := CB.out.step hb
    have CY : Hid (CW _ _ _) := CY.out.step hb
    have HB : Hid _ := b_step HB.out hb
    have Cc : Hid (CW _ _ _) := Cc.out.step hb
    have Cw : Hid (CW _ _ _) := Cw.out.step hb
    clear hb b0 b1 b2 b3 HM9
    have b0 := (CB.out 0 _ rfl).1
    have b1 := (CB.out 1 _ rfl).1
    have b2 := (CB.out 2 _ rfl).1
    have b3 := (CB.out 3 _ rfl).1
    have y0 := (CY.out 0 _ rfl).1
    have y1 := (CY.out 1 _ rfl).1
    have y2 := (CY.out 2 _ rfl).1
    have HNB : Hid ((W.heap.size ≤ pc ∧ W.heap.size ≤ pw) ∧ pc ≠ pw) := by have := HPX.out; show _ ∧ _; omega
    have hcw : pc ≠ pw := HNB.out.2
    have hwc : pw ≠ pc := Ne.symm hcw
    obtain ⟨c0, cf0⟩ := Cc.out 0 _ rfl
    obtain ⟨c1, cf1⟩ := Cc.out 1 _ rfl
    obtain ⟨c2, cf2⟩ := Cc.out 2 _ rfl
    obtain ⟨c3, cf3⟩ := Cc.out 3 _ rfl
    obtain ⟨w0, wf0⟩ := Cw.out 0 _ rfl
    obtain ⟨w1, wf1⟩ := Cw.out 1 _ rfl
    obtain ⟨w2, wf2⟩ := Cw.out 2 _ rfl
    obtain ⟨a1, ha1⟩ : ∃ x, (⟨wx, wq, wz⟩ : Pt).inB 4194304 = x := ⟨_, rfl⟩
    obtain ⟨a2, ha2⟩ : ∃ x, mayC bc = x := ⟨_, rfl⟩
    rw [ha1, ha2]
    have HA1 : Hid _ := ha1
    have HA2 : Hid _ := ha2
    clear ha1 ha2
    have hsc : ∀ q n c, Value.slice (some ⟨sg, 0, none⟩) 1 1 = .slice (some q) n c → ([⟨gx, gy, gz⟩] : List Pt) ≠ [] → q.block ≠ pc := fun q n c e _ => by cases e; exact HSG.out.1.1
    have hsw : ∀ q n c, Value.slice (some ⟨sg, 0, none⟩) 1 1 = .slice (some q) n c → ([⟨gx, gy, gz⟩] : List Pt) ≠ [] → q.block ≠ pw := fun q n c e _ => by cases e; exact HSG.out.1.2
    have F1 : Lies (((((((Va.setCell ⟨pc, 0, none⟩ (.slice (some ⟨sg, 0, none⟩) 1 1)).setCell ⟨pc, 1, none⟩ (.slice none 0 0)).setCell ⟨pc, 2, none⟩ (.slice none 0 0)).setCell ⟨pc, 3, none⟩ (.int .i64 r)).setCell ⟨pw, 0, none⟩ (.int .i64 wx)).setCell ⟨pw, 1, none⟩ (.int .i64 wq)).setCell ⟨pw, 2, none⟩ (.int .i64 wz)) (.slice (some ⟨sg, 0, none⟩) 1 1) [⟨gx, gy, gz⟩] ∧ Below W.heap.size W (((((((Va.setCell ⟨pc, 0, none⟩ (.slice (some ⟨sg, 0, none⟩) 1 1)).setCell ⟨pc, 1, none⟩ (.slice none 0 0)).setCell ⟨pc, 2, none⟩ (.slice none 0 0)).setCell ⟨pc, 3, none⟩ (.int .i64 r)).setCell ⟨pw, 0, none⟩ (.int .i64 wx)).setCell ⟨pw, 1, none⟩ (.int .i64 wq)).setCell ⟨pw, 2, none⟩ (.int .i64 wz)) := ⟨((((((LG.out.grown (setg9 _ pc 0 _) hsc).grown (setg9 _ pc 1 _) hsc).grown (setg9 _ pc 2 _) hsc).grown (setg9 _ pc 3 _) hsc).grown (setg9 _ pw 0 _) hsw).grown (setg9 _ pw 1 _) hsw).grown (setg9 _ pw 2 _) hsw, ((((((HB.out.setCell HNB.out.1.1 _).setCell HNB.out.1.1 _).setCell HNB.out.1.1 _).setCell HNB.out.1.1 _).setCell HNB.out.1.2 _).setCell HNB.out.1.2 _).setCell HNB.out.1.2 _⟩
    obtain ⟨Y, hY⟩ : ∃ Y, Y = (((((((Va.setCell ⟨pc, 0, none⟩ (.slice (some ⟨sg, 0, none⟩) 1 1)).setCell ⟨pc, 1, none⟩ (.slice none 0 0)).setCell ⟨pc, 2, none⟩ (.slice none 0 0)).setCell ⟨pc, 3, none⟩ (.int .i64 r)).setCell ⟨pw, 0, none⟩ (.int .i64 wx)).setCell ⟨pw, 1, none⟩ (.int .i64 wq)).setCell ⟨pw, 2, none⟩ (.int .i64 wz)).drew := ⟨_, rfl⟩
    have FY : Hid (Lies Y (.slice (some ⟨sg, 0, none⟩) 1 1) [⟨gx, gy, gz⟩] ∧ Below W.heap.size W Y) := by show _ ∧ _; rw [hY]; exact ⟨F1.1.below ((Below.refl _ _).drew), F1.2.drew⟩
    have p0 : Y.cell? ⟨pc, 0, none⟩ = some (.slice (some ⟨sg, 0, none⟩) 1 1) := by rw [hY]; simp [go_sem, c0]
    have p1 : Y.cell? ⟨pc, 1, none⟩ = some (.slice none 0 0) := by rw [hY]; simp [go_sem, c1]
    have p2 : Y.cell? ⟨pc, 2, none⟩ = some (.slice none 0 0) := by rw [hY]; simp [go_sem, c2]
    have p3 : Y.cell? ⟨pc, 3, none⟩ = some (.int .i64 r) := by rw [hY]; simp [go_sem, c3]
    have q0 : Y.cell? ⟨pw, 0, none⟩ = some (.int .i64 wx) := by rw [hY]; simp [go_sem, w0]
    have q1 : Y.cell? ⟨pw, 1, none⟩ = some (.int .i64 wq) := by rw [hY]; simp [go_sem, w1]
    have q2 : Y.cell? ⟨pw, 2, none⟩ = some (.int .i64 wz) := by rw [hY]; simp [go_sem, w2]
    obtain ⟨ncc, ncw⟩ := HSG.out.2
    obtain ⟨nyc, nyw⟩ := HYC.out
    clear F1 hsc hsw HSG HNB LG CB CY HB Cc Cw HPX HYC
    go_upto_region 11 with fail
    cases a1
    all_goals
      go_region
      rw [← hY]
      clear hY c0 c1 c2 c3 w0 w1 w2 cf0 cf1 cf2 cf3 wf0 wf1 wf2 b0 b1 b2 b3 y0 y1 y2 hcw hwc ncc ncw nyc nyw
      go_wp2_with (fail)
    · exact bodyPost_ret (v := .tuple #[.agg #[.slice (some ⟨sg, 0, none⟩) 1 1, .slice none 0 0, .slice none 0 0, .int .i64 r], .agg #[.int .i64 wx, .int .i64 wq, .int .i64 wz], .bool false]) (by simp [results, Tryz.results13, go_sem, p0, p1, p2, p3, q0, q1, q2]) rfl ⟨FY.out.2, sg, by rw [HA1.out]; rfl, FY.out.1⟩
    · exact bodyPost_ret (v := .tuple #[.agg #[.slice (some ⟨sg, 0, none⟩) 1 1, .slice none 0 0, .slice none 0 0, .int .i64 r], .agg #[.int .i64 wx, .int .i64 wq, .int .i64 wz], .bool a2]) (by simp [results, Tryz.results13, go_sem, p0, p1, p2, p3, q0, q1, q2]) rfl ⟨FY.out.2, sg, by rw [HA1.out, HA2.out]; rfl, FY.out.1⟩
  · have hok : ok = false := by rw [HWO.out]; simpa using hbb
    subst hok
    have HNB : Hid ((W.heap.size ≤ pc ∧ W.heap.size ≤ pw) ∧ pc ≠ pw) := by have := HPX.out; show _ ∧ _; omega
    have hcw : pc ≠ pw := HNB.out.2
    have hwc : pw ≠ pc := Ne.symm hcw
    obtain ⟨c0, cf0⟩ := Cc.out 0 _ rfl
    obtain ⟨c1, cf1⟩ := Cc.out 1 _ rfl
    obtain ⟨c2, cf2⟩ := Cc.out 2 _ rfl
    obtain ⟨c3, cf3⟩ := Cc.out 3 _ rfl
    obtain ⟨w0, wf0⟩ := Cw.out 0 _ rfl
    obtain ⟨w1, wf1⟩ := Cw.out 1 _ rfl
    obtain ⟨w2, wf2⟩ := Cw.out 2 _ rfl
    have HZ : Hid _ := ((((((HB.out.setCell HNB.out.1.1 (.slice none 0 0) (p := ⟨pc, 0, none⟩)).setCell HNB.out.1.1 (.slice none 0 0) (p := ⟨pc, 1, none⟩)).setCell HNB.out.1.1 (.slice none 0 0) (p := ⟨pc, 2, none⟩)).setCell HNB.out.1.1 (.int .i64 0) (p := ⟨pc, 3, none⟩)).setCell HNB.out.1.2 (.int .i64 0) (p := ⟨pw, 0, none⟩)).setCell HNB.out.1.2 (.int .i64 0) (p := ⟨pw, 1, none⟩)).setCell HNB.out.1.2 (.int .i64 0) (p := ⟨pw, 2, none⟩)
    have hc9 : b1 = false ∨ b1 = true ∧ b2 = false := by
      cases b1 with
      | false => exact Or.inl rfl
      | true => exact Or.inr ⟨rfl, by simpa using hbb⟩
    clear HIW HMY HWO HSM HWZ HBA HB HPX HNB Cf Ct Cc Cw hbb HGF HGT
    rcases hc9 with rfl | ⟨rfl, rfl⟩
    all_goals
      go_wp2_with (fail)
      exact bodyPost_ret (v := .tuple #[.agg #[.slice none 0 0, .slice none 0 0, .slice none 0 0, .int .i64 0], .agg #[.int .i64 0, .int .i64 0, .int .i64 0], .bool false]) (by simp [results, Tryz.results13, go_sem, c0, c1, c2, c3, w0, w1, w2]) rfl ⟨HZ.out, rfl⟩
end Go.Proofs.YtablgiflakncfaaGreat
namespace Go.Proofs.YtablgiflakncfaaGreat
open Go.RowKit Go.Shelf
set_option linter.unusedVariables false

theorem rway_ok {f t : V3} {r : Int} (hf : f.m43) (ht : f.n38 t) (hr : 1 ≤ r ∧ r ≤ 16384) (W : World) :
    Calls Tryz.prog 13 #[.agg #[.int .i64 f.x, .int .i64 f.y, .int .i64 f.z], .agg #[.int .i64 t.x, .int .i64 t.y, .int .i64 t.z], .int .i64 r] W fun e W' => ∃ g : Nat, e = .returned (.tuple #[.agg #[.slice (some ⟨g, 0, none⟩) 1 1, .slice none 0 0, .slice none 0 0, .int .i64 r], .agg #[.int .i64 (wayZ f t).x, .int .i64 (wayZ f t).y, .int .i64 (wayZ f t).z], .bool true]) ∧ Hid (Lies W' (.slice (some ⟨g, 0, none⟩) 1 1) [grn f] ∧ Below W.heap.size W W') := by
  have hok : wayOk f t = true := by
    unfold V3.m43 at hf
    unfold V3.n38 at ht
    unfold wayOk
    rw [Bool.and_eq_true, Pt.inB_iff, Pt.inB_iff]
    dsimp only
    omega
  have hm := (shot_cast hf ht hr (show mayC ⟨[⟨0, 0, 0⟩], [], [], 0⟩ = true by decide))
  have hw : (wayZ f t).inB 4194304 = true := (go_parts (cast_parts hm.1).1).2.2.1
  refine (rway18_any f t r W).mono ?_
  rintro e W' ⟨hb, _, h⟩
  obtain ⟨g, rfl, hl⟩ := h hok
  rw [hm.2, hw]
  exact ⟨g, rfl, hl, hb⟩
theorem lies_one_at {W : World} {g : Nat} {x y z : Int} (h : Lies W (.slice (some ⟨g, 0, none⟩) 1 1) [⟨x, y, z⟩]) : W.cell? ⟨g, 0, none⟩ = some (.int .i64 x) ∧ W.cell? ⟨g, 1, none⟩ = some (.int .i64 y) ∧ W.cell? ⟨g, 2, none⟩ = some (.int .i64 z) := by
  obtain ⟨o, cap, e, _, _, h⟩ := h.form
  cases e
  obtain ⟨g', f', e', a, b, c⟩ := h 0 (by simp)
  cases e'
  exact ⟨by simpa [pt] using a, by simpa [pt] using b, by simpa [pt] using c⟩
end Go.Proofs.YtablgiflakncfaaGreat
namespace Go.Proofs.YtablgiflakncfaaGreat
open Go.RowKit Go.Shelf
set_option linter.unusedVariables false

theorem Cells.put3 {W : World} {b b' : Nat} {vs : List Value} (h : Cells W b vs) (hne : b ≠ b') (x y z : Value) : Cells (((W.setCell ⟨b', 0, none⟩ x).setCell ⟨b', 1, none⟩ y).setCell ⟨b', 2, none⟩ z) b vs := ((h.apart hne 0 x).apart hne 1 y).apart hne 2 z
end Go.Proofs.YtablgiflakncfaaGreat
