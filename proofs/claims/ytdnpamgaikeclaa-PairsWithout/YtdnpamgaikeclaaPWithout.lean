/- PairsWithout: for every slice of pairs and every handle the law answers true: behind Without nobody is paired with that one, as many went as it tells, and all others stay. No conditions. -/
import Derived.Test.YtdnpamgaikeclaaPairJ
namespace Go.Proofs.Ytdnpamgaikeclaa
namespace pairsWithout
open Go.ChangeShapes Go.WideShapes Go.ChangeAt Go.RowKit Go.Shelf
set_option linter.unusedVariables false

theorem own : ownKnob Try.prog.godebug = none := by kernel_rfl
theorem laidOut : laidOutB Try.prog = true := by kernel_rfl
theorem putL_length (room : Nat) (L : List Pr) (p : Pr) : (putL room L p).length ≤ L.length + 1 := by
  unfold putL
  split
  · rw [ins_length]; omega
  · omega
theorem parts (f : Pr → Bool) (L : List Pr) : (L.filter f).length + (L.filter (fun q => !f q)).length = L.length := by
  induction L with
  | nil => rfl
  | cons x r ih =>
    simp only [List.filter_cons]
    cases h : f x <;> simp <;> omega
theorem counts {L : List Pr} {f : Pr → Bool} {k : Nat} (hk : k < L.length) : ((L.take (k + 1)).filter f).length = ((L.take k).filter f).length + (if f (pt L k) then 1 else 0) := by
  rw [filter_pt hk, List.length_append]
  split <;> simp
theorem mem_without {L : List Pr} {h : Int} {k : Nat} (hk : k < L.length) : decide (pt L k ∈ L.filter (fun q => !ofH h q)) = !ofH h (pt L k) := by
  rw [Bool.eq_iff_iff, decide_eq_true_iff, List.mem_filter]
  exact ⟨fun a => a.2, fun a => ⟨pt_mem hk, a⟩⟩
theorem twice (L : List Pr) (h : Int) : (L.filter (fun q => !ofH h q)).filter (fun q => !ofH h q) = L.filter (fun q => !ofH h q) := by
  rw [List.filter_filter]; simp

set_option maxRecDepth 100000 in
set_option maxHeartbeats 8000000 in
theorem walk_nil (l : Nat → Pr) (h : Int) (w : World)  :
    Calls Try.prog 5 #[.slice none 0 0, .int .i64 h] w fun e w' => e = .returned (.bool true) ∧ Below w.heap.size w w' := by
  go_enter Try.func5, Try.ntmps5
  go_wp2_with (fail)
  refine (awake_any _).mono ?_
  rintro e W1 ⟨rfl, hb1⟩
  have HB1 : Hid (Below w.heap.size w W1) := hb1
  clear hb1
  go_wp2_with (fail)
  refine (new_yes 1024 w.heap.size W1 (by omega) (by omega)).mono ?_
  rintro e W2 ⟨sp, rfl, hsp0, hs, hb⟩
  have hsp : w.heap.size ≤ sp := Nat.le_trans HB1.out.size hsp0
  have HB : Hid (Below w.heap.size w W2) := HB1.out.trans (hb.mono HB1.out.size)
  have HS : Hid (IsSet W2 sp w.heap.size (.slice none 0 0) 1024 []) := hs
  clear hs hb hsp0 HB1
  go_wp2_with (fail)
  go_loopw [8] (fun i wr => ∃ (k : Nat) (v : Value) (L : List Pr), i = .int .i64 (k : Int) ∧ k ≤ 0 ∧ L.length ≤ k ∧ Hid (IsSet wr sp w.heap.size v 1024 L) ∧ Hid (Below w.heap.size w wr)) (fun i _ => 0 - (intOf i).toNat)
  case atStart => exact ⟨0, _, [], rfl, Nat.zero_le _, by simp, HS, HB⟩
  case round =>
    clear HS HB
    obtain ⟨k, v, L, rfl, hk, hLk, HS, HB⟩ := hrel
    by_cases hlt2 : k < 0
    · exfalso; omega
    · obtain rfl : k = 0 := by omega
      have hL1 : L.length ≤ 500 := by omega
      have HL0 : Hid (L.length ≤ 0) := hLk
      go_wp2_with (fail)
      refine (all_any sp w.heap.size v 1024 L wr HS.out).mono ?_
      rintro e W3 ⟨u, rfl, hu, hb3⟩
      obtain ⟨o, c, rfl⟩ := row_form hu
      have HS3 : Hid _ := HS.out.below hb3
      have HB3 : Hid _ := HB.out.trans (hb3.mono HB.out.size)
      have HU : Hid (W3.ownsRow wr.heap.size 35 2 (.slice o L.length c) L.length (flat L)) := hu
      have hwr3 := hb3.size
      clear hu hb3
      have hrow : ∀ k, v.ownBlock = some k → w.heap.size ≤ k ∧ k < wr.heap.size := HS.out.own.lt
      have hspw : sp < wr.heap.size := HS.out.lt
      have HWO : Hid (Calls Try.prog 14 #[.pointer (some ⟨sp, 0, none⟩), .int .i64 h] W3 fun e W => e = .returned (.int .i64 ((L.length : Int) - ((L.filter (fun q => !ofH h q)).length : Int))) ∧ ∃ v', IsSet W sp w.heap.size v' 1024 (L.filter (fun q => !ofH h q)) ∧ Below w.heap.size w W ∧ W.ownsRow wr.heap.size 35 2 (.slice o L.length c) L.length (flat L)) := (without_any sp w.heap.size v 1024 L h W3 HS3.out).mono (by
        rintro e W ⟨rfl, v', a, b, _⟩
        refine ⟨rfl, v', a, b.below HB3.out HB3.out.size hsp (fun j e => (hrow j e).1), ?_⟩
        have ho := HU.out
        refine ⟨ho.1, ho.2.imp id ?_⟩
        rintro ⟨g, cap', cur, e1, e2, e3, e4⟩
        exact ⟨g, cap', cur, e1, e2, (b.block g (Array.getElem?_eq_some_iff.1 e3).1 (by omega) (fun e => by have := (hrow g e.symm).2; omega)).trans e3, e4⟩)
      go_wp2_with (fail)
      refine Calls.mono HWO.out ?_
      rintro e W4 ⟨rfl, v4, hs4, hb4, hu4⟩
      have HS4 : Hid _ := hs4
      have HB4 : Hid _ := hb4
      have HU4 : Hid (W4.ownsRow wr.heap.size 35 2 (.slice o L.length c) L.length (flat L)) := hu4
      have HLI : Hid _ := Lies.of_row HU4.out
      obtain ⟨o2, c2, e2, hlc2, hcm2, hcell2⟩ := HLI.out.form
      simp only [Value.slice.injEq, true_and] at e2
      obtain ⟨rfl, rfl⟩ := e2
      have HC2 : Hid _ := hcell2
      have HPA := parts (ofH h) L
      clear hs4 hb4 hu4 HS HB HS3 HB3 HU HWO hcell2 hrow HLI
      obtain ⟨fl, hfl⟩ : ∃ n, n = (L.filter (fun q => !ofH h q)).length := ⟨_, rfl⟩
      obtain ⟨cl, hcl⟩ : ∃ n, n = (L.filter (ofH h)).length := ⟨_, rfl⟩
      rw [← hfl, ← hcl] at HPA
      rw [← hfl]
      have HFL : Hid _ := hfl
      have HCL : Hid _ := hcl
      clear hfl hcl
      go_wp2_with (fail)
      go_loopw [11, 12] (fun a i w5 => ∃ (n : Nat) (k : Nat), i = .int .i64 (k : Int) ∧ a = .int .i64 (n : Int) ∧ k ≤ L.length ∧ n ≤ k ∧ Hid (n = ((L.take k).filter (ofH h)).length) ∧ Hid (Below W4.heap.size W4 w5)) (fun _ i _ => L.length - (intOf i).toNat)
      case atStart => exact ⟨0, 0, rfl, rfl, Nat.zero_le _, Nat.zero_le _, by show 0 = _; simp, Below.refl _ _⟩
      case round =>
        obtain ⟨n, k, rfl, rfl, hk2, hnk, HN, HB5⟩ := hrel
        by_cases hlt3 : k < L.length
        · exfalso; have := HL0.out; omega
        · obtain rfl : k = L.length := by omega
          have hn2 : n = cl := by have := HN.out; rw [List.take_length, ← HCL.out] at this; exact this
          have hx1 : (L.length : Int) - (fl : Int) = (n : Int) := by omega
          have hx2 : (L.length : Int) - (n : Int) = (fl : Int) := by omega
          have HLN : Hid (Calls Try.prog 21 #[.pointer (some ⟨sp, 0, none⟩)] wr fun e W => e = .returned (.int .i64 (fl : Int)) ∧ W = wr) := by
            have := len_any sp w.heap.size v4 1024 _ wr (HS4.out.below HB5.out)
            rw [← HFL.out] at this
            exact this
          have HW2 : Hid (Calls Try.prog 14 #[.pointer (some ⟨sp, 0, none⟩), .int .i64 h] wr fun e W => e = .returned (.int .i64 0) ∧ Below w.heap.size w W) := (without_any sp w.heap.size v4 1024 _ h wr (HS4.out.below HB5.out)).mono (by
            rintro e W ⟨rfl, v', a, b, _⟩
            refine ⟨by rw [twice]; simp, b.below (HB4.out.trans (HB5.out.mono HB4.out.size)) (Nat.le_trans HB4.out.size HB5.out.size) hsp (fun j e => (HS4.out.own.lt j e).1)⟩)
          clear HN hn2
          rw [hx1]
          go_wp2_with (fail)
          refine Calls.mono HLN.out ?_
          clear HLN
          rintro e W ⟨rfl, rfl⟩
          go_wp2_with (fail)
          refine Calls.mono HW2.out ?_
          clear HW2
          rintro e W ⟨rfl, hbW⟩
          have HBW : Hid _ := hbW
          clear hbW
          go_wp2_with (fail)
          go_ret
          exact ⟨rfl, HBW.out⟩

set_option maxRecDepth 100000 in
set_option maxHeartbeats 8000000 in
theorem walk_emp (y : Addr) (cap : Nat) (l : Nat → Pr) (h : Int) (w : World) (hcm : cap ≤ 9223372036854775807) :
    Calls Try.prog 5 #[.slice (some y) 0 cap, .int .i64 h] w fun e w' => e = .returned (.bool true) ∧ Below w.heap.size w w' := by
  go_enter Try.func5, Try.ntmps5
  go_wp2_with (fail)
  refine (awake_any _).mono ?_
  rintro e W1 ⟨rfl, hb1⟩
  have HB1 : Hid (Below w.heap.size w W1) := hb1
  clear hb1
  go_wp2_with (fail)
  refine (new_yes 1024 w.heap.size W1 (by omega) (by omega)).mono ?_
  rintro e W2 ⟨sp, rfl, hsp0, hs, hb⟩
  have hsp : w.heap.size ≤ sp := Nat.le_trans HB1.out.size hsp0
  have HB : Hid (Below w.heap.size w W2) := HB1.out.trans (hb.mono HB1.out.size)
  have HS : Hid (IsSet W2 sp w.heap.size (.slice none 0 0) 1024 []) := hs
  clear hs hb hsp0 HB1
  go_wp2_with (fail)
  go_loopw [8] (fun i wr => ∃ (k : Nat) (v : Value) (L : List Pr), i = .int .i64 (k : Int) ∧ k ≤ 0 ∧ L.length ≤ k ∧ Hid (IsSet wr sp w.heap.size v 1024 L) ∧ Hid (Below w.heap.size w wr)) (fun i _ => 0 - (intOf i).toNat)
  case atStart => exact ⟨0, _, [], rfl, Nat.zero_le _, by simp, HS, HB⟩
  case round =>
    clear HS HB
    obtain ⟨k, v, L, rfl, hk, hLk, HS, HB⟩ := hrel
    by_cases hlt2 : k < 0
    · exfalso; omega
    · obtain rfl : k = 0 := by omega
      have hL1 : L.length ≤ 500 := by omega
      have HL0 : Hid (L.length ≤ 0) := hLk
      go_wp2_with (fail)
      refine (all_any sp w.heap.size v 1024 L wr HS.out).mono ?_
      rintro e W3 ⟨u, rfl, hu, hb3⟩
      obtain ⟨o, c, rfl⟩ := row_form hu
      have HS3 : Hid _ := HS.out.below hb3
      have HB3 : Hid _ := HB.out.trans (hb3.mono HB.out.size)
      have HU : Hid (W3.ownsRow wr.heap.size 35 2 (.slice o L.length c) L.length (flat L)) := hu
      have hwr3 := hb3.size
      clear hu hb3
      have hrow : ∀ k, v.ownBlock = some k → w.heap.size ≤ k ∧ k < wr.heap.size := HS.out.own.lt
      have hspw : sp < wr.heap.size := HS.out.lt
      have HWO : Hid (Calls Try.prog 14 #[.pointer (some ⟨sp, 0, none⟩), .int .i64 h] W3 fun e W => e = .returned (.int .i64 ((L.length : Int) - ((L.filter (fun q => !ofH h q)).length : Int))) ∧ ∃ v', IsSet W sp w.heap.size v' 1024 (L.filter (fun q => !ofH h q)) ∧ Below w.heap.size w W ∧ W.ownsRow wr.heap.size 35 2 (.slice o L.length c) L.length (flat L)) := (without_any sp w.heap.size v 1024 L h W3 HS3.out).mono (by
        rintro e W ⟨rfl, v', a, b, _⟩
        refine ⟨rfl, v', a, b.below HB3.out HB3.out.size hsp (fun j e => (hrow j e).1), ?_⟩
        have ho := HU.out
        refine ⟨ho.1, ho.2.imp id ?_⟩
        rintro ⟨g, cap', cur, e1, e2, e3, e4⟩
        exact ⟨g, cap', cur, e1, e2, (b.block g (Array.getElem?_eq_some_iff.1 e3).1 (by omega) (fun e => by have := (hrow g e.symm).2; omega)).trans e3, e4⟩)
      go_wp2_with (fail)
      refine Calls.mono HWO.out ?_
      rintro e W4 ⟨rfl, v4, hs4, hb4, hu4⟩
      have HS4 : Hid _ := hs4
      have HB4 : Hid _ := hb4
      have HU4 : Hid (W4.ownsRow wr.heap.size 35 2 (.slice o L.length c) L.length (flat L)) := hu4
      have HLI : Hid _ := Lies.of_row HU4.out
      obtain ⟨o2, c2, e2, hlc2, hcm2, hcell2⟩ := HLI.out.form
      simp only [Value.slice.injEq, true_and] at e2
      obtain ⟨rfl, rfl⟩ := e2
      have HC2 : Hid _ := hcell2
      have HPA := parts (ofH h) L
      clear hs4 hb4 hu4 HS HB HS3 HB3 HU HWO hcell2 hrow HLI
      obtain ⟨fl, hfl⟩ : ∃ n, n = (L.filter (fun q => !ofH h q)).length := ⟨_, rfl⟩
      obtain ⟨cl, hcl⟩ : ∃ n, n = (L.filter (ofH h)).length := ⟨_, rfl⟩
      rw [← hfl, ← hcl] at HPA
      rw [← hfl]
      have HFL : Hid _ := hfl
      have HCL : Hid _ := hcl
      clear hfl hcl
      go_wp2_with (fail)
      go_loopw [11, 12] (fun a i w5 => ∃ (n : Nat) (k : Nat), i = .int .i64 (k : Int) ∧ a = .int .i64 (n : Int) ∧ k ≤ L.length ∧ n ≤ k ∧ Hid (n = ((L.take k).filter (ofH h)).length) ∧ Hid (Below W4.heap.size W4 w5)) (fun _ i _ => L.length - (intOf i).toNat)
      case atStart => exact ⟨0, 0, rfl, rfl, Nat.zero_le _, Nat.zero_le _, by show 0 = _; simp, Below.refl _ _⟩
      case round =>
        obtain ⟨n, k, rfl, rfl, hk2, hnk, HN, HB5⟩ := hrel
        by_cases hlt3 : k < L.length
        · exfalso; have := HL0.out; omega
        · obtain rfl : k = L.length := by omega
          have hn2 : n = cl := by have := HN.out; rw [List.take_length, ← HCL.out] at this; exact this
          have hx1 : (L.length : Int) - (fl : Int) = (n : Int) := by omega
          have hx2 : (L.length : Int) - (n : Int) = (fl : Int) := by omega
          have HLN : Hid (Calls Try.prog 21 #[.pointer (some ⟨sp, 0, none⟩)] wr fun e W => e = .returned (.int .i64 (fl : Int)) ∧ W = wr) := by
            have := len_any sp w.heap.size v4 1024 _ wr (HS4.out.below HB5.out)
            rw [← HFL.out] at this
            exact this
          have HW2 : Hid (Calls Try.prog 14 #[.pointer (some ⟨sp, 0, none⟩), .int .i64 h] wr fun e W => e = .returned (.int .i64 0) ∧ Below w.heap.size w W) := (without_any sp w.heap.size v4 1024 _ h wr (HS4.out.below HB5.out)).mono (by
            rintro e W ⟨rfl, v', a, b, _⟩
            refine ⟨by rw [twice]; simp, b.below (HB4.out.trans (HB5.out.mono HB4.out.size)) (Nat.le_trans HB4.out.size HB5.out.size) hsp (fun j e => (HS4.out.own.lt j e).1)⟩)
          clear HN hn2
          rw [hx1]
          go_wp2_with (fail)
          refine Calls.mono HLN.out ?_
          clear HLN
          rintro e W ⟨rfl, rfl⟩
          go_wp2_with (fail)
          refine Calls.mono HW2.out ?_
          clear HW2
          rintro e W ⟨rfl, hbW⟩
          have HBW : Hid _ := hbW
          clear hbW
          go_wp2_with (fail)
          go_ret
          exact ⟨rfl, HBW.out⟩

set_option maxRecDepth 100000 in
set_option maxHeartbeats 8000000 in
theorem walk_lt (b off len cap : Nat) (l : Nat → Pr) (h : Int) (w : World) (hlc : len ≤ cap) (hlt : len ≤ 500) (hcm : cap ≤ 9223372036854775807) (hc : ∀ i, i < len → w.cell? ⟨b, off + i * 2, none⟩ = some (.int .i64 (l i).a) ∧ w.cell? ⟨b, off + i * 2 + 1, none⟩ = some (.int .i64 (l i).b)) :
    Calls Try.prog 5 #[.slice (some ⟨b, off, none⟩) len cap, .int .i64 h] w fun e w' => e = .returned (.bool true) ∧ Below w.heap.size w w' := by
  go_enter Try.func5, Try.ntmps5
  go_wp2_with (fail)
  refine (awake_any _).mono ?_
  rintro e W1 ⟨rfl, hb1⟩
  have HB1 : Hid (Below w.heap.size w W1) := hb1
  clear hb1
  go_wp2_with (fail)
  refine (new_yes 1024 w.heap.size W1 (by omega) (by omega)).mono ?_
  rintro e W2 ⟨sp, rfl, hsp0, hs, hb⟩
  have hsp : w.heap.size ≤ sp := Nat.le_trans HB1.out.size hsp0
  have HB : Hid (Below w.heap.size w W2) := HB1.out.trans (hb.mono HB1.out.size)
  have HS : Hid (IsSet W2 sp w.heap.size (.slice none 0 0) 1024 []) := hs
  clear hs hb hsp0 HB1
  go_wp2_with (fail)
  go_loopw [8] (fun i wr => ∃ (k : Nat) (v : Value) (L : List Pr), i = .int .i64 (k : Int) ∧ k ≤ len ∧ L.length ≤ k ∧ Hid (IsSet wr sp w.heap.size v 1024 L) ∧ Hid (Below w.heap.size w wr)) (fun i _ => len - (intOf i).toNat)
  case atStart => exact ⟨0, _, [], rfl, Nat.zero_le _, by simp, HS, HB⟩
  case round =>
    clear HS HB
    obtain ⟨k, v, L, rfl, hk, hLk, HS, HB⟩ := hrel
    by_cases hlt2 : k < len
    · obtain ⟨c0, c1⟩ := hc k (by omega)
      have d0 := (HB.out.cell (World.block_lt_of_cell? _ _ c0)).trans c0
      have d1 := (HB.out.cell (World.block_lt_of_cell? _ _ c1)).trans c1
      have HP : Hid (Calls Try.prog 16 #[.pointer (some ⟨sp, 0, none⟩), .agg #[.int .i64 (l k).a, .int .i64 (l k).b]] wr fun e W => (∃ (x : Bool) (y : Int), e = .returned (.tuple #[.bool x, .int .i64 y])) ∧ ∃ v', IsSet W sp w.heap.size v' 1024 (putL 1024 L (l k)) ∧ Below w.heap.size w W) := (put_any sp w.heap.size v 1024 L (l k) wr HS.out HB.out.size).mono (by
        rintro e W ⟨rfl, v', a, b, _⟩
        exact ⟨⟨_, _, rfl⟩, v', a, b.below HB.out HB.out.size hsp (fun j e => (HS.out.own.lt j e).1)⟩)
      have hLk' : (putL 1024 L (l k)).length ≤ k + 1 := Nat.le_trans (putL_length _ _ _) (by omega)
      clear c0 c1
      generalize (l k).a = ma at *
      generalize (l k).b = mb at *
      go_wp2_with (fail)
      refine Calls.mono HP.out ?_
      clear HP
      rintro e W ⟨⟨x, y, rfl⟩, v', hs', hb'⟩
      have HS' : Hid _ := hs'
      have HB' : Hid _ := hb'
      clear hs' hb'
      go_wp2_with (fail)
      go_roundw
      case rel => exact ⟨k + 1, v', _, by go_num, by omega, hLk', HS', HB'⟩
      case measure => simp [intOf]; omega
    · obtain rfl : k = len := by omega
      have hL1 : L.length ≤ 500 := by omega
      go_wp2_with (fail)
      refine (all_any sp w.heap.size v 1024 L wr HS.out).mono ?_
      rintro e W3 ⟨u, rfl, hu, hb3⟩
      obtain ⟨o, c, rfl⟩ := row_form hu
      have HS3 : Hid _ := HS.out.below hb3
      have HB3 : Hid _ := HB.out.trans (hb3.mono HB.out.size)
      have HU : Hid (W3.ownsRow wr.heap.size 35 2 (.slice o L.length c) L.length (flat L)) := hu
      have hwr3 := hb3.size
      clear hu hb3
      have hrow : ∀ k, v.ownBlock = some k → w.heap.size ≤ k ∧ k < wr.heap.size := HS.out.own.lt
      have hspw : sp < wr.heap.size := HS.out.lt
      have HWO : Hid (Calls Try.prog 14 #[.pointer (some ⟨sp, 0, none⟩), .int .i64 h] W3 fun e W => e = .returned (.int .i64 ((L.length : Int) - ((L.filter (fun q => !ofH h q)).length : Int))) ∧ ∃ v', IsSet W sp w.heap.size v' 1024 (L.filter (fun q => !ofH h q)) ∧ Below w.heap.size w W ∧ W.ownsRow wr.heap.size 35 2 (.slice o L.length c) L.length (flat L)) := (without_any sp w.heap.size v 1024 L h W3 HS3.out).mono (by
        rintro e W ⟨rfl, v', a, b, _⟩
        refine ⟨rfl, v', a, b.below HB3.out HB3.out.size hsp (fun j e => (hrow j e).1), ?_⟩
        have ho := HU.out
        refine ⟨ho.1, ho.2.imp id ?_⟩
        rintro ⟨g, cap', cur, e1, e2, e3, e4⟩
        exact ⟨g, cap', cur, e1, e2, (b.block g (Array.getElem?_eq_some_iff.1 e3).1 (by omega) (fun e => by have := (hrow g e.symm).2; omega)).trans e3, e4⟩)
      go_wp2_with (fail)
      refine Calls.mono HWO.out ?_
      rintro e W4 ⟨rfl, v4, hs4, hb4, hu4⟩
      have HS4 : Hid _ := hs4
      have HB4 : Hid _ := hb4
      have HU4 : Hid (W4.ownsRow wr.heap.size 35 2 (.slice o L.length c) L.length (flat L)) := hu4
      have HLI : Hid _ := Lies.of_row HU4.out
      obtain ⟨o2, c2, e2, hlc2, hcm2, hcell2⟩ := HLI.out.form
      simp only [Value.slice.injEq, true_and] at e2
      obtain ⟨rfl, rfl⟩ := e2
      have HC2 : Hid _ := hcell2
      have HPA := parts (ofH h) L
      clear hs4 hb4 hu4 HS HB HS3 HB3 HU HWO hcell2 hrow HLI
      obtain ⟨fl, hfl⟩ : ∃ n, n = (L.filter (fun q => !ofH h q)).length := ⟨_, rfl⟩
      obtain ⟨cl, hcl⟩ : ∃ n, n = (L.filter (ofH h)).length := ⟨_, rfl⟩
      rw [← hfl, ← hcl] at HPA
      rw [← hfl]
      have HFL : Hid _ := hfl
      have HCL : Hid _ := hcl
      clear hfl hcl
      go_wp2_with (fail)
      go_loopw [11, 12] (fun a i w5 => ∃ (n : Nat) (k : Nat), i = .int .i64 (k : Int) ∧ a = .int .i64 (n : Int) ∧ k ≤ L.length ∧ n ≤ k ∧ Hid (n = ((L.take k).filter (ofH h)).length) ∧ Hid (Below W4.heap.size W4 w5)) (fun _ i _ => L.length - (intOf i).toNat)
      case atStart => exact ⟨0, 0, rfl, rfl, Nat.zero_le _, Nat.zero_le _, by show 0 = _; simp, Below.refl _ _⟩
      case round =>
        obtain ⟨n, k, rfl, rfl, hk2, hnk, HN, HB5⟩ := hrel
        by_cases hlt3 : k < L.length
        · obtain ⟨g, off2, rfl, x0, x1⟩ := HC2.out k hlt3
          have y0 := (HB5.out.cell (World.block_lt_of_cell? _ _ x0)).trans x0
          have y1 := (HB5.out.cell (World.block_lt_of_cell? _ _ x1)).trans x1
          have HH : Hid (Calls Try.prog 19 #[.pointer (some ⟨sp, 0, none⟩), .agg #[.int .i64 (pt L k).a, .int .i64 (pt L k).b]] wr fun e W => e = .returned (.bool (!((pt L k).a == h || (pt L k).b == h))) ∧ Below wr.heap.size wr W) := (has_any sp w.heap.size v4 1024 _ (pt L k) wr (HS4.out.below HB5.out)).mono (by
            rintro e W ⟨rfl, hb⟩
            rw [mem_without hlt3]
            exact ⟨rfl, hb⟩)
          have HNX : Hid ((n + if ((pt L k).a == h || (pt L k).b == h) then 1 else 0) = ((L.take (k + 1)).filter (ofH h)).length) := by
            show _ = _
            rw [counts hlt3, ← HN.out]; rfl
          clear x0 x1
          generalize (pt L k).a = ma at *
          generalize (pt L k).b = mb at *
          by_cases ea : ma = h
          · subst ea
            have hd : (ma == ma || mb == ma) = true := by simp
            rw [hd] at HH HNX
            clear hd
            go_wp2_with (fail)
            refine Calls.mono HH.out ?_
            clear HH
            rintro e W ⟨rfl, hb⟩
            have HB6 : Hid _ := HB5.out.trans (hb.mono HB5.out.size)
            clear hb
            go_wp2_with (fail)
            go_roundw
            case rel => exact ⟨n + 1, k + 1, by go_num, by go_num, by omega, by omega, by show _ = _; have := HNX.out; simpa using this, HB6⟩
            case measure => simp [intOf]; omega
          · have ea' : (ma == h) = false := beq_eq_false_iff_ne.2 ea
            by_cases eb : mb = h
            · subst eb
              have hd : (ma == mb || mb == mb) = true := by simp
              rw [hd] at HH HNX
              clear hd
              go_wp2_with (fail)
              refine Calls.mono HH.out ?_
              clear HH
              rintro e W ⟨rfl, hb⟩
              have HB6 : Hid _ := HB5.out.trans (hb.mono HB5.out.size)
              clear hb
              go_wp2_with (fail)
              go_roundw
              case rel => exact ⟨n + 1, k + 1, by go_num, by go_num, by omega, by omega, by show _ = _; have := HNX.out; simpa using this, HB6⟩
              case measure => simp [intOf]; omega
            · have eb' : (mb == h) = false := beq_eq_false_iff_ne.2 eb
              have hd : (ma == h || mb == h) = false := by rw [ea', eb']; rfl
              rw [hd] at HH HNX
              clear hd
              go_wp2_with (fail)
              refine Calls.mono HH.out ?_
              clear HH
              rintro e W ⟨rfl, hb⟩
              have HB6 : Hid _ := HB5.out.trans (hb.mono HB5.out.size)
              clear hb
              go_wp2_with (fail)
              go_roundw
              case rel => exact ⟨n, k + 1, by go_num, rfl, by omega, by omega, by show _ = _; have := HNX.out; simpa using this, HB6⟩
              case measure => simp [intOf]; omega
        · obtain rfl : k = L.length := by omega
          have hn2 : n = cl := by have := HN.out; rw [List.take_length, ← HCL.out] at this; exact this
          have hx1 : (L.length : Int) - (fl : Int) = (n : Int) := by omega
          have hx2 : (L.length : Int) - (n : Int) = (fl : Int) := by omega
          have HLN : Hid (Calls Try.prog 21 #[.pointer (some ⟨sp, 0, none⟩)] wr fun e W => e = .returned (.int .i64 (fl : Int)) ∧ W = wr) := by
            have := len_any sp w.heap.size v4 1024 _ wr (HS4.out.below HB5.out)
            rw [← HFL.out] at this
            exact this
          have HW2 : Hid (Calls Try.prog 14 #[.pointer (some ⟨sp, 0, none⟩), .int .i64 h] wr fun e W => e = .returned (.int .i64 0) ∧ Below w.heap.size w W) := (without_any sp w.heap.size v4 1024 _ h wr (HS4.out.below HB5.out)).mono (by
            rintro e W ⟨rfl, v', a, b, _⟩
            refine ⟨by rw [twice]; simp, b.below (HB4.out.trans (HB5.out.mono HB4.out.size)) (Nat.le_trans HB4.out.size HB5.out.size) hsp (fun j e => (HS4.out.own.lt j e).1)⟩)
          clear HN hn2
          rw [hx1]
          go_wp2_with (fail)
          refine Calls.mono HLN.out ?_
          clear HLN
          rintro e W ⟨rfl, rfl⟩
          go_wp2_with (fail)
          refine Calls.mono HW2.out ?_
          clear HW2
          rintro e W ⟨rfl, hbW⟩
          have HBW : Hid _ := hbW
          clear hbW
          go_wp2_with (fail)
          go_ret
          exact ⟨rfl, HBW.out⟩

set_option maxRecDepth 100000 in
set_option maxHeartbeats 8000000 in
theorem walk_gt (b off len cap : Nat) (l : Nat → Pr) (h : Int) (w : World) (hlc : len ≤ cap) (hlt : 500 < len) (hcm : cap ≤ 9223372036854775807) (hc : ∀ i, i < len → w.cell? ⟨b, off + i * 2, none⟩ = some (.int .i64 (l i).a) ∧ w.cell? ⟨b, off + i * 2 + 1, none⟩ = some (.int .i64 (l i).b)) :
    Calls Try.prog 5 #[.slice (some ⟨b, off, none⟩) len cap, .int .i64 h] w fun e w' => e = .returned (.bool true) ∧ Below w.heap.size w w' := by
  go_enter Try.func5, Try.ntmps5
  go_wp2_with (fail)
  refine (awake_any _).mono ?_
  rintro e W1 ⟨rfl, hb1⟩
  have HB1 : Hid (Below w.heap.size w W1) := hb1
  clear hb1
  go_wp2_with (fail)
  refine (new_yes 1024 w.heap.size W1 (by omega) (by omega)).mono ?_
  rintro e W2 ⟨sp, rfl, hsp0, hs, hb⟩
  have hsp : w.heap.size ≤ sp := Nat.le_trans HB1.out.size hsp0
  have HB : Hid (Below w.heap.size w W2) := HB1.out.trans (hb.mono HB1.out.size)
  have HS : Hid (IsSet W2 sp w.heap.size (.slice none 0 0) 1024 []) := hs
  clear hs hb hsp0 HB1
  go_wp2_with (fail)
  go_loopw [8] (fun i wr => ∃ (k : Nat) (v : Value) (L : List Pr), i = .int .i64 (k : Int) ∧ k ≤ 500 ∧ L.length ≤ k ∧ Hid (IsSet wr sp w.heap.size v 1024 L) ∧ Hid (Below w.heap.size w wr)) (fun i _ => 500 - (intOf i).toNat)
  case atStart => exact ⟨0, _, [], rfl, Nat.zero_le _, by simp, HS, HB⟩
  case round =>
    clear HS HB
    obtain ⟨k, v, L, rfl, hk, hLk, HS, HB⟩ := hrel
    by_cases hlt2 : k < 500
    · obtain ⟨c0, c1⟩ := hc k (by omega)
      have d0 := (HB.out.cell (World.block_lt_of_cell? _ _ c0)).trans c0
      have d1 := (HB.out.cell (World.block_lt_of_cell? _ _ c1)).trans c1
      have HP : Hid (Calls Try.prog 16 #[.pointer (some ⟨sp, 0, none⟩), .agg #[.int .i64 (l k).a, .int .i64 (l k).b]] wr fun e W => (∃ (x : Bool) (y : Int), e = .returned (.tuple #[.bool x, .int .i64 y])) ∧ ∃ v', IsSet W sp w.heap.size v' 1024 (putL 1024 L (l k)) ∧ Below w.heap.size w W) := (put_any sp w.heap.size v 1024 L (l k) wr HS.out HB.out.size).mono (by
        rintro e W ⟨rfl, v', a, b, _⟩
        exact ⟨⟨_, _, rfl⟩, v', a, b.below HB.out HB.out.size hsp (fun j e => (HS.out.own.lt j e).1)⟩)
      have hLk' : (putL 1024 L (l k)).length ≤ k + 1 := Nat.le_trans (putL_length _ _ _) (by omega)
      clear c0 c1
      generalize (l k).a = ma at *
      generalize (l k).b = mb at *
      go_wp2_with (fail)
      refine Calls.mono HP.out ?_
      clear HP
      rintro e W ⟨⟨x, y, rfl⟩, v', hs', hb'⟩
      have HS' : Hid _ := hs'
      have HB' : Hid _ := hb'
      clear hs' hb'
      go_wp2_with (fail)
      go_roundw
      case rel => exact ⟨k + 1, v', _, by go_num, by omega, hLk', HS', HB'⟩
      case measure => simp [intOf]; omega
    · obtain rfl : k = 500 := by omega
      have hL1 : L.length ≤ 500 := by omega
      go_wp2_with (fail)
      refine (all_any sp w.heap.size v 1024 L wr HS.out).mono ?_
      rintro e W3 ⟨u, rfl, hu, hb3⟩
      obtain ⟨o, c, rfl⟩ := row_form hu
      have HS3 : Hid _ := HS.out.below hb3
      have HB3 : Hid _ := HB.out.trans (hb3.mono HB.out.size)
      have HU : Hid (W3.ownsRow wr.heap.size 35 2 (.slice o L.length c) L.length (flat L)) := hu
      have hwr3 := hb3.size
      clear hu hb3
      have hrow : ∀ k, v.ownBlock = some k → w.heap.size ≤ k ∧ k < wr.heap.size := HS.out.own.lt
      have hspw : sp < wr.heap.size := HS.out.lt
      have HWO : Hid (Calls Try.prog 14 #[.pointer (some ⟨sp, 0, none⟩), .int .i64 h] W3 fun e W => e = .returned (.int .i64 ((L.length : Int) - ((L.filter (fun q => !ofH h q)).length : Int))) ∧ ∃ v', IsSet W sp w.heap.size v' 1024 (L.filter (fun q => !ofH h q)) ∧ Below w.heap.size w W ∧ W.ownsRow wr.heap.size 35 2 (.slice o L.length c) L.length (flat L)) := (without_any sp w.heap.size v 1024 L h W3 HS3.out).mono (by
        rintro e W ⟨rfl, v', a, b, _⟩
        refine ⟨rfl, v', a, b.below HB3.out HB3.out.size hsp (fun j e => (hrow j e).1), ?_⟩
        have ho := HU.out
        refine ⟨ho.1, ho.2.imp id ?_⟩
        rintro ⟨g, cap', cur, e1, e2, e3, e4⟩
        exact ⟨g, cap', cur, e1, e2, (b.block g (Array.getElem?_eq_some_iff.1 e3).1 (by omega) (fun e => by have := (hrow g e.symm).2; omega)).trans e3, e4⟩)
      go_wp2_with (fail)
      refine Calls.mono HWO.out ?_
      rintro e W4 ⟨rfl, v4, hs4, hb4, hu4⟩
      have HS4 : Hid _ := hs4
      have HB4 : Hid _ := hb4
      have HU4 : Hid (W4.ownsRow wr.heap.size 35 2 (.slice o L.length c) L.length (flat L)) := hu4
      have HLI : Hid _ := Lies.of_row HU4.out
      obtain ⟨o2, c2, e2, hlc2, hcm2, hcell2⟩ := HLI.out.form
      simp only [Value.slice.injEq, true_and] at e2
      obtain ⟨rfl, rfl⟩ := e2
      have HC2 : Hid _ := hcell2
      have HPA := parts (ofH h) L
      clear hs4 hb4 hu4 HS HB HS3 HB3 HU HWO hcell2 hrow HLI
      obtain ⟨fl, hfl⟩ : ∃ n, n = (L.filter (fun q => !ofH h q)).length := ⟨_, rfl⟩
      obtain ⟨cl, hcl⟩ : ∃ n, n = (L.filter (ofH h)).length := ⟨_, rfl⟩
      rw [← hfl, ← hcl] at HPA
      rw [← hfl]
      have HFL : Hid _ := hfl
      have HCL : Hid _ := hcl
      clear hfl hcl
      go_wp2_with (fail)
      go_loopw [11, 12] (fun a i w5 => ∃ (n : Nat) (k : Nat), i = .int .i64 (k : Int) ∧ a = .int .i64 (n : Int) ∧ k ≤ L.length ∧ n ≤ k ∧ Hid (n = ((L.take k).filter (ofH h)).length) ∧ Hid (Below W4.heap.size W4 w5)) (fun _ i _ => L.length - (intOf i).toNat)
      case atStart => exact ⟨0, 0, rfl, rfl, Nat.zero_le _, Nat.zero_le _, by show 0 = _; simp, Below.refl _ _⟩
      case round =>
        obtain ⟨n, k, rfl, rfl, hk2, hnk, HN, HB5⟩ := hrel
        by_cases hlt3 : k < L.length
        · obtain ⟨g, off2, rfl, x0, x1⟩ := HC2.out k hlt3
          have y0 := (HB5.out.cell (World.block_lt_of_cell? _ _ x0)).trans x0
          have y1 := (HB5.out.cell (World.block_lt_of_cell? _ _ x1)).trans x1
          have HH : Hid (Calls Try.prog 19 #[.pointer (some ⟨sp, 0, none⟩), .agg #[.int .i64 (pt L k).a, .int .i64 (pt L k).b]] wr fun e W => e = .returned (.bool (!((pt L k).a == h || (pt L k).b == h))) ∧ Below wr.heap.size wr W) := (has_any sp w.heap.size v4 1024 _ (pt L k) wr (HS4.out.below HB5.out)).mono (by
            rintro e W ⟨rfl, hb⟩
            rw [mem_without hlt3]
            exact ⟨rfl, hb⟩)
          have HNX : Hid ((n + if ((pt L k).a == h || (pt L k).b == h) then 1 else 0) = ((L.take (k + 1)).filter (ofH h)).length) := by
            show _ = _
            rw [counts hlt3, ← HN.out]; rfl
          clear x0 x1
          generalize (pt L k).a = ma at *
          generalize (pt L k).b = mb at *
          by_cases ea : ma = h
          · subst ea
            have hd : (ma == ma || mb == ma) = true := by simp
            rw [hd] at HH HNX
            clear hd
            go_wp2_with (fail)
            refine Calls.mono HH.out ?_
            clear HH
            rintro e W ⟨rfl, hb⟩
            have HB6 : Hid _ := HB5.out.trans (hb.mono HB5.out.size)
            clear hb
            go_wp2_with (fail)
            go_roundw
            case rel => exact ⟨n + 1, k + 1, by go_num, by go_num, by omega, by omega, by show _ = _; have := HNX.out; simpa using this, HB6⟩
            case measure => simp [intOf]; omega
          · have ea' : (ma == h) = false := beq_eq_false_iff_ne.2 ea
            by_cases eb : mb = h
            · subst eb
              have hd : (ma == mb || mb == mb) = true := by simp
              rw [hd] at HH HNX
              clear hd
              go_wp2_with (fail)
              refine Calls.mono HH.out ?_
              clear HH
              rintro e W ⟨rfl, hb⟩
              have HB6 : Hid _ := HB5.out.trans (hb.mono HB5.out.size)
              clear hb
              go_wp2_with (fail)
              go_roundw
              case rel => exact ⟨n + 1, k + 1, by go_num, by go_num, by omega, by omega, by show _ = _; have := HNX.out; simpa using this, HB6⟩
              case measure => simp [intOf]; omega
            · have eb' : (mb == h) = false := beq_eq_false_iff_ne.2 eb
              have hd : (ma == h || mb == h) = false := by rw [ea', eb']; rfl
              rw [hd] at HH HNX
              clear hd
              go_wp2_with (fail)
              refine Calls.mono HH.out ?_
              clear HH
              rintro e W ⟨rfl, hb⟩
              have HB6 : Hid _ := HB5.out.trans (hb.mono HB5.out.size)
              clear hb
              go_wp2_with (fail)
              go_roundw
              case rel => exact ⟨n, k + 1, by go_num, rfl, by omega, by omega, by show _ = _; have := HNX.out; simpa using this, HB6⟩
              case measure => simp [intOf]; omega
        · obtain rfl : k = L.length := by omega
          have hn2 : n = cl := by have := HN.out; rw [List.take_length, ← HCL.out] at this; exact this
          have hx1 : (L.length : Int) - (fl : Int) = (n : Int) := by omega
          have hx2 : (L.length : Int) - (n : Int) = (fl : Int) := by omega
          have HLN : Hid (Calls Try.prog 21 #[.pointer (some ⟨sp, 0, none⟩)] wr fun e W => e = .returned (.int .i64 (fl : Int)) ∧ W = wr) := by
            have := len_any sp w.heap.size v4 1024 _ wr (HS4.out.below HB5.out)
            rw [← HFL.out] at this
            exact this
          have HW2 : Hid (Calls Try.prog 14 #[.pointer (some ⟨sp, 0, none⟩), .int .i64 h] wr fun e W => e = .returned (.int .i64 0) ∧ Below w.heap.size w W) := (without_any sp w.heap.size v4 1024 _ h wr (HS4.out.below HB5.out)).mono (by
            rintro e W ⟨rfl, v', a, b, _⟩
            refine ⟨by rw [twice]; simp, b.below (HB4.out.trans (HB5.out.mono HB4.out.size)) (Nat.le_trans HB4.out.size HB5.out.size) hsp (fun j e => (HS4.out.own.lt j e).1)⟩)
          clear HN hn2
          rw [hx1]
          go_wp2_with (fail)
          refine Calls.mono HLN.out ?_
          clear HLN
          rintro e W ⟨rfl, rfl⟩
          go_wp2_with (fail)
          refine Calls.mono HW2.out ?_
          clear HW2
          rintro e W ⟨rfl, hbW⟩
          have HBW : Hid _ := hbW
          clear hbW
          go_wp2_with (fail)
          go_ret
          exact ⟨rfl, HBW.out⟩

theorem walk (a : Option Addr) (len cap : Nat) (l : Nat → Pr) (h : Int) (w : World) (hi : In w a len cap l) :
    Calls Try.prog 5 #[.slice a len cap, .int .i64 h] w fun e w' => e = .returned (.bool true) ∧ Below w.heap.size w w' := by
  cases a with
  | none =>
    obtain ⟨rfl, rfl⟩ := hi.nil rfl
    exact walk_nil l h w
  | some y =>
    by_cases h0 : len = 0
    · subst h0
      exact walk_emp y cap l h w hi.big
    · rcases hi.at_ with e | ⟨b, off, e, hc⟩
      · exact absurd e h0
      · simp only [Option.some.injEq] at e
        subst e
        by_cases hm : len ≤ 500
        · exact walk_lt b off len cap l h w hi.le hm hi.big hc
        · exact walk_gt b off len cap l h w hi.le (by omega) hi.big hc

/-! ### The row's step, after the guide's template -/
set_option maxRecDepth 100000 in
theorem lifted (os : Os) (started : os.Started) (H : Type) (enc : TypeId × Value → H) :
    ReturnsInHanded {} Try.checked os 5 .any (Rows.pairsWithoutSpec.pre6 enc Try.prog Try.f5 Rows.pairsWithoutRow.domain false) (Rows.pairsWithoutSpec.post enc Try.prog Try.f5 false true false false) := by
  refine returnsInHanded_of_change (C := Try.checked) own started (by kernel_rfl) Try.func5
    (ChangeSpec.witness6 (enc := enc) (C := Try.checked) false ⟨#[], #[.slice none 0 0, .int .i64 0], []⟩ 8 (by kernel_rfl) (by kernel_rfl) (by kernel_rfl) (by kernel_rfl)) ?_
  intro W base args ds gs before hval0 hW hcnd _
  have hval : ∀ (j : Nat) t v, Try.f5.params[j]? = some t → args[j]? = some v → Value.okWide Try.prog W .any base t v := hval0
  have hW' := hW
  obtain ⟨p, q, hA0, hV, rfl, hfz, hnd⟩ := hW
  have hA : DataW.TrodAll enc Try.prog W 0 (fun _ => true) true Try.f5.params.toList args.toList ds p := hA0
  rw [Try.params5] at hA hval
  obtain ⟨v0, vs0, d0, ds0, p0, q0, hargs, rfl, rfl, h0, r0⟩ := trodAll_cons hA
  obtain ⟨v1, vs1, d1, ds1, p1, q1, rfl, rfl, rfl, h1, r1⟩ := trodAll_cons r0
  obtain ⟨rfl, rfl, rfl⟩ := trodAll_nil r1
  obtain rfl : args = #[v0, v1] := by cases args; simp_all
  obtain ⟨rfl, rfl⟩ := trodVars_none hV
  obtain ⟨a0, len0, cap0, rfl⟩ := okWide_slice Try.underlying43 (hval 0 43 v0 rfl rfl)
  have k0 := h0
  have lt0 : ∀ x ∈ p0, x.block < W.heap.size := by obtain ⟨m, hm⟩ := k0; exact DataW.trod_lt m _ _ _ hm
  obtain ⟨fuel, hf⟩ := h0
  obtain ⟨l, hin⟩ := pairs_of (enc := enc) (by simpa [Value.cells] using hf)
  obtain ⟨a1, rfl, rfl, rfl, w1⟩ := open_int Try.underlying3 (hval 1 3 v1 rfl rfl) h1
  clear hA0 hval0
  refine (walk a0 len0 cap0 l a1 W hin).mono fun e W' ⟨he, bel⟩ => ?_
  subst he
  exact ⟨_, rfl, _, _, _, [], _, [], hW', trodAll_mk1 (shut_bool Try.underlying4 _), (trodAll_cons_mk (Below.trod laidOut (by kernel_rfl) (of_decide_eq_true (by kernel_rfl)) k0 bel lt0) (trodAll_cons_mk (shut_int Try.underlying3 w1) trodAll_mk0)), rfl, bel.frame _, fun h => by cases h⟩

theorem over : Rows.pairsWithoutRow.holds Try.pinned (OpenSpec.ofChange Rows.pairsWithoutSpec) :=
  OpenClaim.holds_of_wide 5 Try.f5 rfl rfl rfl rfl rfl rfl rfl ⟨rfl, rfl, rfl, rfl, rfl⟩ rfl rfl rfl rfl rfl (by kernel_rfl) Try.func5 (by kernel_rfl)
    (of_decide_eq_true (by kernel_rfl)) (by unfold Func.isWrapper; first | (rw [if_pos (by decide +kernel)]; kernel_rfl) | (rw [if_neg (by decide +kernel)]; exact ⟨rfl, rfl⟩))
    (fun os started H enc _ => lifted os started H enc)

end pairsWithout

theorem pairsWithout_holds : Rows.PairsWithoutSaid := pairsWithout.over
#print axioms pairsWithout_holds
end Go.Proofs.Ytdnpamgaikeclaa
