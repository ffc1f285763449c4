/- EventOnce, THE STAGE'S THEOREM: what is taken is what was pushed, in its order, each once; what had no room is not there at all: true of every room, all lists and all numbers of takes. -/
import Derived.Test.YtbbmjfaflcbimaaEvO
import Derived.ProofKit
namespace Go.Proofs.Ytbbmjfaflcbimaa
namespace eventOnce
open Go.ChangeShapes Go.WideShapes Go.ChangeAt Go.RowKit Go.Shelf
set_option linter.unusedVariables false

theorem own : ownKnob Try.prog.godebug = none := by kernel_rfl
theorem laidOut : laidOutB Try.prog = true := by kernel_rfl

/-- The queue, which holds C, beside the list 'there', which is D. -/
structure ON (w0 W : World) (qp rb room : Nat) (C D : List Ev) (v : Value) : Prop where
  qu : Qu W qp rb room C
  own : OA W w0.heap.size v D
  below : Below w0.heap.size w0 W
  far : v.ownBlock ≠ some qp ∧ v.ownBlock ≠ some rb
  ge : w0.heap.size ≤ qp ∧ w0.heap.size ≤ rb
section
variable {w0 W V : World} {qp rb room : Nat} {C D C' D' : List Ev} {v v' : Value}
theorem ON.step (h : ON w0 W qp rb room C D v) (hb : Below W.heap.size W V) : ON w0 V qp rb room C D v := ⟨Qu.below h.qu hb, h.own.below hb, z_step h.below hb, h.far, h.ge⟩
theorem ON.q (h : ON w0 W qp rb room C D v) (hq : Qu V qp rb room C') (ht : Two2 W V qp rb) : ON w0 V qp rb room C' D v :=
  ⟨hq, h.own.two ht h.far.1 h.far.2, Two2.below h.below h.below.size h.ge.1 h.ge.2 ht, h.far, h.ge⟩
theorem ON.app (h : ON w0 W qp rb room C D v) (r : OA V w0.heap.size v' D') (hg : W.grownBy V v.ownBlock) (hs : v'.ownBlock = v.ownBlock ∨ v'.ownBlock = some W.heap.size) : ON w0 V qp rb room C D' v' := by
  obtain ⟨R, f, hq, hR, hr⟩ := h.qu
  have h1 := hq.qlt
  have h2 := hq.rlt
  refine ⟨⟨R, f, hq.keep (hg.block qp h1 (fun e => h.far.1 e.symm)) (hg.block rb h2 (fun e => h.far.2 e.symm)), hR, hr⟩, r, ⟨hg.os.trans h.below.os, hg.tape.trans h.below.tape, hg.output.trans h.below.output, Nat.le_trans h.below.size hg.size, fun k hk => (hg.block k (Nat.lt_of_lt_of_le hk h.below.size) (fun e => by have := (h.own.lt k e.symm).1; omega)).trans (h.below.block k hk)⟩, ?_, h.ge⟩
  rcases hs with hs | hs
  · rw [hs]; exact h.far
  · rw [hs]; exact ⟨fun e => by injection e with e; omega, fun e => by injection e with e; omega⟩
theorem ON.len {o : Option Addr} {n c : Nat} (h : ON w0 W qp rb room C D (.slice o n c)) : n = D.length := by
  obtain ⟨o', c', e, _⟩ := h.own.len
  injection e
theorem ON.push (h : ON w0 W qp rb room C D v) (l : List Ev) (u : Value) (hl : LiesE W u l) (hf : l ≠ [] → Far u qp rb) (hroom : room ≤ 40) (hll : l.length < 140737488355328) :
    ∃ (F : Int) (b : Bool) (C' : List Ev), (F == 0) = b ∧ decide ((C.length : Int) + (l.length : Int) ≤ (room : Int)) = b ∧ (C' = bif b then C ++ l else C) ∧ Calls Try.prog 13 #[.pointer (some ⟨qp, 0, none⟩), u] W fun e V => e = .returned (.int .i64 F) ∧ ON w0 V qp rb room C' D v := by
  by_cases hfit : C.length + l.length ≤ room
  · refine ⟨0, true, C ++ l, rfl, decide_eq_true (by omega), rfl, ?_⟩
    refine Calls.mono (qpush_fits qp rb room C l u W h.qu hl hf hfit) ?_
    rintro e V ⟨rfl, hq, ht⟩
    exact ⟨rfl, h.q hq ht⟩
  · refine ⟨190, false, C, rfl, decide_eq_false (by omega), rfl, ?_⟩
    refine Calls.mono (qpush_full qp rb room C l u W h.qu hl (by omega)) ?_
    rintro e V ⟨rfl, hb⟩
    exact ⟨rfl, h.step hb⟩
theorem ON.empty (h : ON w0 W qp rb room [] D v) : Calls Try.prog 10 #[.pointer (some ⟨qp, 0, none⟩)] W fun e V => e = .returned (.tuple #[Ev.O.v, .bool false]) ∧ ON w0 V qp rb room [] D v := by
  obtain ⟨R, f, hq, hR, hr⟩ := h.qu
  refine Calls.mono (qtake_none qp rb R f W hq) ?_
  rintro e V ⟨rfl, hb⟩
  exact ⟨rfl, h.step hb⟩
theorem ON.take {x : Ev} (h : ON w0 W qp rb room (x :: C) D v) : Calls Try.prog 10 #[.pointer (some ⟨qp, 0, none⟩)] W fun e V => e = .returned (.tuple #[x.v, .bool true]) ∧ ON w0 V qp rb room C D v := by
  obtain ⟨R, f, hq, hR, hr⟩ := h.qu
  have hr2 : ring R f (C.length + 1) = x :: C := hr
  have ht := ring_take R f C.length Ev.O hq.first hq.count
  rw [hr2] at ht
  injection ht with h1 h2
  refine Calls.mono (qtake_some qp rb R f C.length W hq) ?_
  rintro e V ⟨rfl, hq', htwo⟩
  refine ⟨by rw [h1], h.q ⟨_, _, hq', by rw [List.length_set]; exact hR, h2.symm⟩ htwo⟩
end

set_option maxHeartbeats 4000000 in
set_option maxRecDepth 100000 in
theorem walk (a0 : Int) (o1 : Option Addr) (L1 : List (List Ev)) (c1 : Nat) (o2 : Option Addr) (L2 : List (Int)) (c2 : Nat) (w0 : World) (ba0 : -9223372036854775808 ≤ a0 ∧ a0 ≤ 9223372036854775807) (hL1 : LiesLL w0 (.slice o1 L1.length c1) L1) (hb1 : ∀ l ∈ L1, l.length < 140737488355328) (hL2 : LiesN w0 (.slice o2 L2.length c2) L2) :
    Calls Try.prog 4 #[.int .i64 a0, .slice o1 L1.length c1, .slice o2 L2.length c2] w0 fun e W => e = .returned (.bool true) ∧ Below w0.heap.size w0 W := by
  have p0 := pickE_lo a0 (n := 40) (by omega)
  have p1 := pickE_hi a0 (n := 40) (by omega)
  obtain ⟨rm, hrm⟩ : ∃ rm : Nat, pickE a0 40 = (rm : Int) := ⟨(pickE a0 40).toNat, by omega⟩
  have hr40 : rm < 40 := by omega
  clear p0 p1
  have HRM : Hid _ := hrm
  have HA : Hid _ := awake19_any w0
  have HL1 : Hid _ := hL1
  have HL2 : Hid _ := hL2
  have HB1 : Hid _ := hb1
  obtain ⟨_, _, e1, hc1, hcm1, _⟩ := hL1.form
  cases e1
  obtain ⟨_, _, e2, hc2, hcm2, _⟩ := hL2.form
  cases e2
  clear hL1 hL2 hb1 hrm
  go_enter Try.func4, Try.ntmps4
  go_wp2_with (fail)
  refine Calls.mono HA.out ?_
  clear HA
  rintro e W1 ⟨rfl, b1⟩
  have B1 : Hid _ := b1
  clear b1
  go_wp2_with (fail)
  refine Calls.mono (epick_any a0 40 W1 ba0 (by omega) (by omega)) ?_
  rintro e W2 ⟨rfl, hW2⟩
  obtain rfl : W1 = W2 := hW2.symm
  clear hW2
  rw [HRM.out]
  have HN : Hid (Calls Try.prog 7 #[.int .i64 (1 + (rm : Int))] W1 fun e W => ∃ qp rb, e = .returned (.tuple #[.pointer (some ⟨qp, 0, none⟩), .int .i64 0]) ∧ W1.heap.size ≤ qp ∧ W1.heap.size ≤ rb ∧ Qu W qp rb (rm + 1) [] ∧ Below W1.heap.size W1 W) := by
    have := new19_yes (rm + 1) W1 (by omega) (by omega)
    rw [Int.natCast_add, Int.add_comm] at this
    exact this
  clear HRM
  go_wp2_with (fail)
  refine Calls.mono HN.out ?_
  clear HN
  rintro e W3 ⟨qp, rb, rfl, hqp, hrb, hQ, hb⟩
  have HON : Hid (ON w0 W3 qp rb (rm + 1) [] [] (.slice none 0 0)) := ⟨hQ, OA.nil _ _, z_step B1.out hb, ⟨by simp [Value.ownBlock], by simp [Value.ownBlock]⟩, ⟨Nat.le_trans B1.out.size hqp, Nat.le_trans B1.out.size hrb⟩⟩
  clear hqp hrb hQ hb B1
  go_wp2_with (fail)
  go_loopg [10, 11, 12, 13, 14, 15, 16] 100 (fun gm s10 s11 s12 s13 s14 s15 s16 wr => ∃ (k n2 : Nat) (o2 : Option Addr) (c2 : Nat) (C : List Ev), s11 = .int .i64 (k : Int) ∧ s10 = .slice o2 n2 c2 ∧ k ≤ 100 ∧ gm = 100 - k ∧ Hid (ON w0 wr qp rb (rm + 1) C C (.slice o2 n2 c2)))
  case atStart => exact ⟨0, 0, none, 0, [], rfl, rfl, by omega, rfl, HON⟩
  case round =>
    obtain ⟨k, n2, o2, c2, C, rfl, rfl, hk, hgm, HO⟩ := hrel
    have HM : Hid _ := hgm
    clear hgm HON
    have hn2 : n2 = C.length := HO.out.len
    subst hn2
    have hC40 : C.length ≤ rm + 1 := (Qu.count HO.out.qu).1
    by_cases hgo : k < L1.length ∧ k < 100
    · obtain ⟨h1, h2⟩ := hgo
      obtain ⟨o9, c9, e9, _, _, hrow⟩ := (HL1.out.below HO.out.below).form
      obtain ⟨g, off, o3, c3, l, e8, hl, hcell, hE⟩ := hrow k h1
      injection e9 with e9 e91 e92
      clear e91 e92
      rw [e8] at e9
      subst e9
      have hll : l.length < 140737488355328 := HB1.out l (List.mem_of_getElem? hl)
      have hfar : l ≠ [] → Far (.slice o3 l.length c3) qp rb := by
        obtain ⟨o9, c9, e9, _, _, hrow⟩ := HL1.out.form
        obtain ⟨g', off', o3', c3', l', e8', hl', hcell', hE'⟩ := hrow k h1
        injection e9 with e9 _ _
        rw [e8'] at e9
        injection e9 with e9
        injection e9 with e91 e92
        subst e91; subst e92
        have := z_after HO.out.below hcell'
        rw [hcell] at this
        injection this with this
        rw [this]
        rw [hl] at hl'
        injection hl' with hl'
        subst hl'
        exact hE'.far HO.out.ge.1 HO.out.ge.2
      obtain ⟨F, b, C', hF, hd, hC', HP⟩ := HO.out.push l (.slice o3 l.length c3) hE hfar (by omega) hll
      have hd : decide ((C.length : Int) + (l.length : Int) ≤ 1 + (rm : Int)) = b := by rw [← hd]; congr 1; rw [Int.natCast_add, Int.add_comm (rm : Int)]; rfl
      have HP : Hid _ := HP
      have HC : Hid _ := hC'
      have HLk : Hid (L1[k]? = some l) := hl
      have hone : (C.length : Int) + (l.length : Int) ≤ 9223372036854775807 := by omega
      have hcd : ∀ W, Below w0.heap.size w0 W → W.cell? ⟨g, off + k, none⟩ = some (.slice o3 l.length c3) ∧ LiesE W (.slice o3 l.length c3) l := fun W hb => by
        obtain ⟨o9, c9, e9, _, _, hrow⟩ := (HL1.out.below hb).form
        obtain ⟨g', off', o3', c3', l', e8', hl', hcell', hE'⟩ := hrow k h1
        injection e9 with e9 _ _
        rw [e8'] at e9
        injection e9 with e9
        injection e9 with e91 e92
        subst e91; subst e92
        obtain ⟨o9, c9, e9, _, _, hrow⟩ := HL1.out.form
        obtain ⟨g'', off'', o3'', c3'', l'', e8'', hl'', hcell'', hE''⟩ := hrow k h1
        injection e9 with e9 _ _
        rw [e8''] at e9
        injection e9 with e9
        injection e9 with e91 e92
        subst e91; subst e92
        have t1 := z_after hb hcell''
        rw [hcell'] at t1
        have t2 := z_after HO.out.below hcell''
        rw [hcell] at t2
        rw [hl] at hl' hl''
        injection hl' with hl'
        injection hl'' with hl''
        subst hl'; subst hl''
        injection t1 with t1
        injection t2 with t2
        rw [t1] at hcell' hE'
        rw [t2]
        exact ⟨hcell', hE'⟩
      have HCD : Hid _ := hcd
      clear hrow hE hfar hC' hl hcd e8
      go_wp2_with (fail)
      refine Calls.mono HP.out ?_
      rintro e W4 ⟨rfl, hON⟩
      have HO4 : Hid _ := hON
      obtain ⟨hcell4, hE4⟩ := HCD.out W4 hON.below
      have HE4 : Hid _ := hE4
      clear hON hcell hE4 HP HCD HLk
      go_upto_if 66 with fail
      go_cut [10] from 52 to 72 (fun s10 wx => ∃ (n5 : Nat) (o5 : Option Addr) (c5 : Nat), s10 = .slice o5 n5 c5 ∧ Hid (ON w0 wx qp rb (rm + 1) C' C' (.slice o5 n5 c5)))
      case first =>
        cases b with
        | false =>
          have e : C' = C := HC.out
          subst e
          go_wp2_with (fail)
          go_meet
          case rel => exact ⟨_, _, _, rfl, HO4⟩
        | true =>
          have e : C' = C ++ l := HC.out
          subst e
          have hcl := (Qu.count HO4.out.qu).1
          rw [List.length_append] at hcl
          go_wp2_with (at_builtin; refine eapp rfl _ _ rfl w0.heap.size _ C rfl HO4.out.own _ l rfl HE4.out (by omega) HO4.out.below.size ?_; intro u9 V9 r8 g8 s8; have HO5 : Hid _ := HO4.out.app r8 g8 s8; obtain ⟨o9, c9, e9, _⟩ := HO5.out.own.len; subst e9; clear r8 g8 s8)
          go_meet
          case rel => exact ⟨C.length + l.length, o9, c9, rfl, by have := HO5; rw [List.length_append] at this; exact this⟩
      case rest =>
        clear HO4 HE4 HC HO hF hd hone hcell4
        obtain ⟨n5, o5, c5, rfl, HO5⟩ := hcut
        obtain ⟨w5, rfl⟩ : ∃ x, x = wc := ⟨_, rfl⟩
        go_upto_if 75 with fail
        go_cut [13] from 75 to 83 (fun s13 wx => ∃ n : Nat, s13 = .int .i64 (n : Int) ∧ n ≤ 5 ∧ wx = w5)
        case first =>
          by_cases hz : L2.length = 0
          · have hz' : (L2.length : Int) = 0 := by omega
            go_wp2_with (fail)
            go_meet
            case rel => exact ⟨0, rfl, by omega, rfl⟩
          · have hz' : (0 : Int) < (L2.length : Int) := by omega
            have hz0 : ((L2.length : Int) == 0) = false := beq_eq_false_iff_ne.2 (by omega)
            obtain ⟨kk, hkk⟩ : ∃ kk, k % L2.length = kk := ⟨_, rfl⟩
            have hkl : kk < L2.length := by rw [← hkk]; exact Nat.mod_lt _ (by omega)
            have hkl' : (kk : Int) < (L2.length : Int) := by omega
            have hmod : (k : Int) % (L2.length : Int) = (kk : Int) := by rw [← hkk]; exact (Int.natCast_emod k L2.length).symm
            obtain ⟨o9, c9, e9, _, _, hrow⟩ := (HL2.out.below HO5.out.below).form
            obtain ⟨g2, off2, z, e8, hcell, hz1, hz2⟩ := hrow kk hkl
            injection e9 with e9 e91 e92
            clear e91 e92
            rw [e8] at e9
            subst e9
            clear hkk hrow e8
            go_wp2_with (fail)
            refine Calls.mono (epick_any z 6 w5 ⟨hz1, hz2⟩ (by omega) (by omega)) ?_
            rintro e W6 ⟨rfl, hW⟩
            have q0 := pickE_lo z (n := 6) (by omega)
            have q1 := pickE_hi z (n := 6) (by omega)
            obtain ⟨n, hn⟩ : ∃ n : Nat, pickE z 6 = (n : Int) := ⟨(pickE z 6).toNat, by omega⟩
            rw [hn]
            have hn5 : n ≤ 5 := by omega
            clear hn q0 q1
            go_wp2_with (fail)
            go_meet
            case rel => exact ⟨n, rfl, hn5, rfl⟩
        case rest =>
          obtain ⟨n, rfl, hn5, hwc⟩ := hcut
          obtain rfl : w5 = wc := hwc.symm
          clear hwc
          go_wp2_with (fail)
          go_loopg [10, 14, 15, 16] n (fun gm s10 s14 s15 s16 wr2 => ∃ (j n7 : Nat) (o7 : Option Addr) (c7 : Nat) (C7 : List Ev), s14 = .int .i64 (j : Int) ∧ s10 = .slice o7 n7 c7 ∧ j ≤ n ∧ gm = n - j ∧ Hid (ON w0 wr2 qp rb (rm + 1) C7 C7 (.slice o7 n7 c7)))
          case atStart => exact ⟨0, n5, o5, c5, C', rfl, rfl, Nat.zero_le _, rfl, HO5⟩
          case round =>
            obtain ⟨j, n7, o7, c7, C7, rfl, rfl, hj, hgm, HO7⟩ := hrel
            have HM7 : Hid _ := hgm
            clear hgm HO5
            have hn7 : n7 = C7.length := HO7.out.len
            subst hn7
            by_cases hlt : j < n
            · cases C7 with
              | nil =>
                have HP : Hid _ := HO7.out.empty
                unfold Ev.v Ev.O at HP
                rw [List.length_nil] at *
                go_wp2_with (fail)
                refine Calls.mono HP.out ?_
                rintro e W7 ⟨rfl, hON⟩
                have HO8 : Hid _ := hON
                clear hON HP HO7
                go_upto_region 22 with fail
                obtain ⟨V, hV⟩ : ∃ V, V = W7.alloc (Obj.cells #[Value.int IntKind.i64 0, Value.int IntKind.i64 0, Value.int IntKind.i64 0] 37) := ⟨_, rfl⟩
                have HO9 : Hid (ON w0 V qp rb (rm + 1) [] [] (.slice o7 0 c7)) := by rw [hV]; exact HO8.out.step ((Below.refl _ _).alloc (Nat.le_refl _) _)
                rw [← hV]
                clear hV HO8
                go_region
                go_wp2_with (fail)
                go_roundg (n - (j + 1))
                case measure => have := HM7.out; omega
                case rel => exact ⟨j + 1, 0, o7, c7, [], by go_num, rfl, by omega, rfl, HO9.out.step (Below.refl _ _).drew⟩
              | cons x D =>
                have HP : Hid _ := HO7.out.take
                obtain ⟨g7, off7, hg7⟩ : ∃ g off, o7 = some ⟨g, off, none⟩ := by
                  rcases HO7.out.own.form with ⟨_, e⟩ | ⟨g, off, cap, e, _⟩
                  · cases e
                  · injection e with e _ _; exact ⟨g, off, e⟩
                subst hg7
                rw [List.length_cons] at *
                obtain ⟨ek, ea, eb⟩ := x
                unfold Ev.v at HP
                dsimp only at HP
                go_wp2_with (fail)
                refine Calls.mono HP.out ?_
                rintro e W7 ⟨rfl, hON⟩
                have HO8 : Hid _ := hON
                clear hON HP HO7
                go_upto_region 22 with fail
                obtain ⟨V, hV⟩ : ∃ V, V = W7.alloc (Obj.cells #[Value.int IntKind.i64 ek, Value.int IntKind.i64 ea, Value.int IntKind.i64 eb] 37) := ⟨_, rfl⟩
                have HO9 : Hid (ON w0 V qp rb (rm + 1) D (⟨ek, ea, eb⟩ :: D) (.slice (some ⟨g7, off7, none⟩) (D.length + 1) c7)) := by rw [hV]; exact HO8.out.step ((Below.refl _ _).alloc (Nat.le_refl _) _)
                obtain ⟨S0, hS0⟩ : ∃ n, n = W7.heap.size := ⟨_, rfl⟩
                have y0 : V.cell? ⟨S0, 0, none⟩ = some (.int .i64 ek) := by rw [hV, hS0]; simp [go_sem]
                have y1 : V.cell? ⟨S0, 1, none⟩ = some (.int .i64 ea) := by rw [hV, hS0]; simp [go_sem]
                have y2 : V.cell? ⟨S0, 2, none⟩ = some (.int .i64 eb) := by rw [hV, hS0]; simp [go_sem]
                rw [← hV, ← hS0]
                clear hV HO8 hS0
                obtain ⟨x0, x1, x2⟩ : V.cell? ⟨g7, off7, none⟩ = some (.int .i64 ek) ∧ V.cell? ⟨g7, off7 + 1, none⟩ = some (.int .i64 ea) ∧ V.cell? ⟨g7, off7 + 2, none⟩ = some (.int .i64 eb) := by
                  have hc := HO9.out.own.lies.cells.2
                  have h0 := hc 0 _ rfl
                  have h1 := hc 1 _ rfl
                  have h2 := hc 2 _ rfl
                  rw [z_add] at h0 h1 h2
                  exact ⟨h0, h1, h2⟩
                have hpos : (0 : Int) < (D.length : Int) + 1 := by omega
                obtain ⟨hcap, htl, htl0⟩ := HO9.out.own.tail.2
                have hcm : c7 ≤ 9223372036854775807 := by
                  rcases HO9.out.own.form with ⟨e, _⟩ | ⟨g', off', cap', e, _, _, _, h4, _⟩
                  · cases e
                  · injection e with _ _ e; subst e; unfold maxLen at h4; omega
                have HTL : Hid _ := And.intro htl htl0
                clear htl htl0
                go_region
                have HW : Hid (Below V.heap.size V V.drew) := (Below.refl _ V).drew
                by_cases hc1 : c7 = 1
                · subst hc1
                  obtain rfl : D = [] := List.eq_nil_of_length_eq_zero (by omega)
                  have HON2 : Hid (ON w0 V.drew qp rb (rm + 1) [] [] (.slice (some ⟨g7, off7, none⟩) 0 0)) := ⟨Qu.below HO9.out.qu HW.out, (HTL.out.2 rfl).below HW.out, z_step HO9.out.below HW.out, HO9.out.far, HO9.out.ge⟩
                  clear HO9 HTL
                  go_wp2_with (fail)
                  go_roundg (n - (j + 1))
                  case measure => have := HM7.out; omega
                  case rel => exact ⟨j + 1, 0, _, _, [], by go_num, rfl, by omega, rfl, HON2⟩
                · obtain ⟨cp, rfl⟩ : ∃ cp, c7 = cp + 1 := ⟨c7 - 1, by omega⟩
                  have hcp : 0 < cp := by omega
                  have HON2 : Hid (ON w0 V.drew qp rb (rm + 1) D D (.slice (some ⟨g7, off7 + 3, none⟩) D.length cp)) := ⟨Qu.below HO9.out.qu HW.out, HTL.out.1.below HW.out, z_step HO9.out.below HW.out, HO9.out.far, HO9.out.ge⟩
                  clear HO9 HTL
                  go_wp2_with (fail)
                  go_roundg (n - (j + 1))
                  case measure => have := HM7.out; omega
                  case rel => exact ⟨j + 1, D.length, _, _, D, by go_num, rfl, by omega, rfl, HON2⟩
            · have HF : Hid (ON w0 _ qp rb (rm + 1) C7 C7 (.slice o7 C7.length c7)) := HO7.out
              go_wp2_with (fail)
              go_roundg (100 - (k + 1))
              case measure => have := HM.out; omega
              case rel => exact ⟨k + 1, C7.length, o7, c7, C7, by go_num, rfl, by omega, rfl, HF⟩
    · have HOF : Hid (ON w0 wr qp rb (rm + 1) C C (.slice o2 C.length c2)) := HO.out
      obtain ⟨R, f, hq, hR, hrg⟩ := HO.out.qu
      have HQF : Hid _ := hq
      have HRF : Hid _ := hR
      have HAL : Hid _ := qall_any qp rb (rm + 1) C wr HO.out.qu
      clear hq hR hrg HO HL1 HL2 HB1
      by_cases h1 : k < L1.length
      all_goals
        have h2 : k < L1.length → ¬ k < 100 := fun a b => hgo ⟨a, b⟩
        first | (have h3 : ¬ k < 100 := h2 h1) | skip
        clear h2 hgo
        go_wp2_with (fail)
        refine Calls.mono HAL.out ?_
        rintro e W5 ⟨rfl, hEL, hb⟩
        have HEL : Hid _ := hEL
        have HO5 : Hid _ := HOF.out.step hb
        have HQ5 : Hid _ := HQF.out.below hb
        clear hEL hb
        go_wp2_with (fail)
        refine Calls.mono (events_same _ _ C W5 (OA.lies (OA.of_row (HEL.out.own (Nat.zero_le _) (by omega)))) HO5.out.own.lies) ?_
        rintro e W6 ⟨rfl, hb⟩
        have HO6 : Hid _ := HO5.out.step hb
        have HQ6 : Hid _ := HQ5.out.below hb
        clear hb
        go_wp2_with (fail)
        have HFR : Hid (Calls Try.prog 16 #[.pointer (some ⟨qp, 0, none⟩)] W6 fun e W => e = .returned (.int .i64 (1 + (rm : Int) - (C.length : Int))) ∧ Below W6.heap.size W6 W) := by
          refine Calls.mono (qfree_any qp rb _ _ _ W6 HQ6.out) ?_
          rintro e W ⟨rfl, hb⟩
          refine ⟨?_, hb⟩
          rw [HRF.out, Int.natCast_add, Int.add_comm (rm : Int)]
          rfl
        refine Calls.mono HFR.out ?_
        rintro e W7 ⟨rfl, hb⟩
        have HB7 : Hid _ := z_step HO6.out.below hb
        clear hb
        go_wp2_with (fail)
        go_ret
        exact ⟨rfl, HB7.out⟩

/-! ### The row's step, after the guide's template -/
set_option maxRecDepth 100000 in
theorem lifted (os : Os) (started : os.Started) (H : Type) (enc : TypeId × Value → H) :
    ReturnsInHanded {} Try.checked os 4 .any (Rows.eventOnceSpec.pre6 enc Try.prog Try.f4 Rows.eventOnceRow.domain false) (Rows.eventOnceSpec.post enc Try.prog Try.f4 false true false false) := by
  refine returnsInHanded_of_change_sized (C := Try.checked) own started (by kernel_rfl) Try.func4
    (ChangeSpec.witness6 (enc := enc) (C := Try.checked) false ⟨#[], #[.int .i64 0, .slice none 0 0, .slice none 0 0], []⟩ 8 (by kernel_rfl) (by kernel_rfl) (by kernel_rfl) (by kernel_rfl)) ?_
  intro W base args ds gs before hval0 hW hcnd hwt0 _
  have hval : ∀ (j : Nat) t v, Try.f4.params[j]? = some t → args[j]? = some v → Value.okWide Try.prog W .any base t v := hval0
  have hW' := hW
  obtain ⟨p, q, hA0, hV, rfl, hfz, hnd⟩ := hW
  have hA : DataW.TrodAll enc Try.prog W 0 (fun _ => true) true Try.f4.params.toList args.toList ds p := hA0
  rw [Try.params4] at hA hval
  have hwt : ∀ n ∈ DataW.weightsEach Try.prog (Try.f4.params.toList ++ Rows.eventOnceSpec.plain.varTypes Try.prog) (ds ++ gs), n ≤ reachBytes := fun n hn => by have h9 := List.all_eq_true.1 hwt0 n hn; simpa using h9
  rw [Try.params4] at hwt
  clear hwt0
  obtain ⟨v0, vs0, d0, ds0, p0, q0, hargs, rfl, rfl, h0, r0⟩ := trodAll_cons hA
  obtain ⟨v1, vs1, d1, ds1, p1, q1, rfl, rfl, rfl, h1, r1⟩ := trodAll_cons r0
  obtain ⟨v2, vs2, d2, ds2, p2, q2, rfl, rfl, rfl, h2, r2⟩ := trodAll_cons r1
  obtain ⟨rfl, rfl, rfl⟩ := trodAll_nil r2
  obtain rfl : args = #[v0, v1, v2] := by cases args; simp_all
  obtain ⟨rfl, rfl⟩ := trodVars_none hV
  obtain ⟨a0, rfl, rfl, rfl, w0⟩ := open_int Try.underlying3 (hval 0 3 v0 rfl rfl) h0
  have b0 := bounds_i64 w0
  have k1 := h1
  have lt1 : ∀ x ∈ p1, x.block < W.heap.size := by obtain ⟨m, hm⟩ := k1; exact DataW.trod_lt m _ _ _ hm
  obtain ⟨o1, L1, c1, rfl, hL1, hb1⟩ := open_rows19 (hval 1 47 v1 rfl rfl) h1 (fun n hn => hwt n (DataW.weights_mem_each (j := 1) (t := 47) rfl rfl n hn))
  have k2 := h2
  have lt2 : ∀ x ∈ p2, x.block < W.heap.size := by obtain ⟨m, hm⟩ := k2; exact DataW.trod_lt m _ _ _ hm
  obtain ⟨o2, L2, c2, rfl, hL2⟩ := open_nums19 (hval 2 48 v2 rfl rfl) h2
  clear hA0 hval0
  refine (walk a0 o1 L1 c1 o2 L2 c2 W (by omega) hL1 hb1 hL2).mono fun e W' ⟨he, bel⟩ => ?_
  subst he
  exact ⟨_, rfl, _, _, _, [], _, [], hW', trodAll_mk1 (shut_bool Try.underlying4 _), (trodAll_cons_mk (shut_int Try.underlying3 w0) (trodAll_cons_mk (Below.trod laidOut (by kernel_rfl) (of_decide_eq_true (by kernel_rfl)) k1 bel lt1) (trodAll_cons_mk (Below.trod laidOut (by kernel_rfl) (of_decide_eq_true (by kernel_rfl)) k2 bel lt2) trodAll_mk0))), rfl, bel.frame _, fun h => by cases h⟩

theorem over : Rows.eventOnceRow.holds Try.pinned (OpenSpec.ofChange Rows.eventOnceSpec) :=
  OpenClaim.holds_of_wide 4 Try.f4 rfl rfl rfl rfl rfl rfl rfl ⟨rfl, rfl, rfl, rfl, rfl⟩ rfl rfl rfl rfl rfl (by kernel_rfl) Try.func4 (by kernel_rfl)
    (of_decide_eq_true (by kernel_rfl)) (by unfold Func.isWrapper; first | (rw [if_pos (by decide +kernel)]; kernel_rfl) | (rw [if_neg (by decide +kernel)]; exact ⟨rfl, rfl⟩))
    (fun os started H enc _ => lifted os started H enc)

end eventOnce

theorem eventOnce_holds : Rows.EventOnceSaid := eventOnce.over
#print axioms eventOnce_holds
end Go.Proofs.Ytbbmjfaflcbimaa
