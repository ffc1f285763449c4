/- A hull's sides. -/
import Derived.Test.YthcdpngkoejgpaaShD
import Derived.WalkMore
namespace Go.Proofs.Ythcdpngkoejgpaa
open Go.RowKit Go.Shelf
set_option linter.unusedVariables false

theorem Box3.grown {w W : World} {b : Nat} {q : Pt} {row : Option Nat} (h : Box3 w b q) (hg : w.grownBy W row) (hne : row ≠ some b) : Box3 W b q := by
  have hb := hg.block b h.lt (fun e => hne e.symm)
  obtain ⟨c0, c1, c2, f0, f1, f2⟩ := h
  simp only [World.cell?, World.frozen?] at c0 c1 c2 f0 f1 f2
  rw [← hb] at c0 c1 c2 f0 f1 f2
  exact ⟨c0, c1, c2, f0, f1, f2⟩
/-- Two lists of the call's own, and boxes that are none of theirs. -/
structure Two (w0 W : World) (va ve : Value) (A E : List Pt) (bs : List (Nat × Pt)) : Prop where
  ra : W.ownsRow w0.heap.size 26 3 va A.length (fl3 A)
  re : W.ownsRow w0.heap.size 26 3 ve E.length (fl3 E)
  apart : ∀ k, ve.ownBlock = some k → va.ownBlock ≠ some k
  below : Below w0.heap.size w0 W
  box : ∀ x ∈ bs, Box3 W x.1 x.2 ∧ va.ownBlock ≠ some x.1 ∧ ve.ownBlock ≠ some x.1 ∧ w0.heap.size ≤ x.1
theorem Two.start (w0 : World) : Two w0 w0 (.slice none 0 0) (.slice none 0 0) [] [] [] := ⟨World.ownsRow_nil _ _ _ _, World.ownsRow_nil _ _ _ _, (fun _ h => by cases h), Below.refl _ _, (fun _ h => by cases h)⟩
theorem Two.step {w0 W X : World} {va ve : Value} {A E : List Pt} {bs : List (Nat × Pt)} (h : Two w0 W va ve A E bs) (hb : Below W.heap.size W X) : Two w0 X va ve A E bs :=
  ⟨own_below h.ra hb, own_below h.re hb, h.apart, h.below.trans (hb.mono h.below.size), fun x hx => ⟨(h.box x hx).1.step hb, (h.box x hx).2⟩⟩
theorem Two.new {w0 W : World} {va ve : Value} {A E : List Pt} {bs : List (Nat × Pt)} (h : Two w0 W va ve A E bs) (q : Pt) (t : TypeId) : Two w0 (W.alloc (.cells #[.int .i64 q.x, .int .i64 q.y, .int .i64 q.z] t)) va ve A E ((W.heap.size, q) :: bs) := by
  obtain ⟨a, b, c, d, e⟩ := h.step (n_after W (.cells #[.int .i64 q.x, .int .i64 q.y, .int .i64 q.z] t))
  refine ⟨a, b, c, d, fun x hx => ?_⟩
  rw [List.mem_cons] at hx
  rcases hx with rfl | hx
  · exact ⟨Box3.new W q.x q.y q.z t, fun k => by have := (h.ra.lt _ k).2; simp at this, fun k => by have := (h.re.lt _ k).2; simp at this, h.below.size⟩
  · exact e x hx
theorem Two.tail {w0 W : World} {va ve : Value} {A E : List Pt} {x : Nat × Pt} {bs : List (Nat × Pt)} (h : Two w0 W va ve A E (x :: bs)) : Two w0 W va ve A E bs := ⟨h.ra, h.re, h.apart, h.below, fun y hy => h.box y (List.mem_cons_of_mem _ hy)⟩
theorem Two.head {w0 W : World} {va ve : Value} {A E : List Pt} {x : Nat × Pt} {bs : List (Nat × Pt)} (h : Two w0 W va ve A E (x :: bs)) : Box3 W x.1 x.2 := (h.box x (by simp)).1
theorem Two.set {w0 W : World} {va ve : Value} {A E : List Pt} {b : Nat} {q : Pt} {bs : List (Nat × Pt)} (h : Two w0 W va ve A E ((b, q) :: bs)) (hne : ∀ x ∈ bs, x.1 ≠ b) (r : Pt) : Two w0 (set3 W b r.x r.y r.z) va ve A E ((b, r) :: bs) := by
  obtain ⟨hb, h1, h2, h3⟩ := h.box (b, q) (by simp)
  refine ⟨own_set3 h.ra h1 _ _ _, own_set3 h.re h2 _ _ _, h.apart, set3_below h.below h3 _ _ _, fun x hx => ?_⟩
  rw [List.mem_cons] at hx
  rcases hx with rfl | hx
  · exact ⟨hb.set _ _ _, h1, h2, h3⟩
  · obtain ⟨k, k'⟩ := h.box x (List.mem_cons_of_mem _ hx)
    exact ⟨k.other (fun e => hne x hx e.symm) _ _ _, k'⟩
theorem Two.axis {w0 W X : World} {va ve va' : Value} {A E A' : List Pt} {bs : List (Nat × Pt)} (h : Two w0 W va ve A E bs) (hr : X.ownsRow w0.heap.size 26 3 va' A'.length (fl3 A')) (hg : Grew W X va va') : Two w0 X va' ve A' E bs := by
  obtain ⟨k1, k2⟩ := hg.beside h.re h.apart
  refine ⟨hr, k1, k2, hg.on h.below h.ra h.below.size, fun x hx => ?_⟩
  obtain ⟨b, b1, b2, b3⟩ := h.box x hx
  refine ⟨b.grown hg.grown b1, ?_, b2, b3⟩
  rcases hg.same with e | ⟨k, e, hk⟩
  · rw [e]; exact b1
  · rw [e]; intro e'; cases e'; have := b.lt; omega
theorem Two.swap {w0 W : World} {va ve : Value} {A E : List Pt} {bs : List (Nat × Pt)} (h : Two w0 W va ve A E bs) : Two w0 W ve va E A bs := ⟨h.re, h.ra, fun k e e' => h.apart k e' e, h.below, fun x hx => ⟨(h.box x hx).1, (h.box x hx).2.2.1, (h.box x hx).2.1, (h.box x hx).2.2.2⟩⟩
theorem Two.edge {w0 W X : World} {va ve ve' : Value} {A E E' : List Pt} {bs : List (Nat × Pt)} (h : Two w0 W va ve A E bs) (hr : X.ownsRow w0.heap.size 26 3 ve' E'.length (fl3 E')) (hg : Grew W X ve ve') : Two w0 X va ve' A E' bs := (h.swap.axis hr hg).swap

theorem any_snoc (L : List Pt) (f : Pt → Bool) (k : Nat) (hk : k < L.length) : (L.take (k + 1)).any f = ((L.take k).any f || f (pt L k)) := by
  rw [take_pt hk]; simp
theorem any_takeP {L : List Pt} {f : Pt → Bool} {k : Nat} (h : (L.take k).any f = true) : L.any f = true := by
  rw [List.any_eq_true] at h ⊢
  obtain ⟨x, hx, hf⟩ := h
  exact ⟨x, List.mem_of_mem_take hx, hf⟩
theorem at_new (w : World) (p q r : Pt) (t : TypeId) : At (w.alloc (.cells #[.int .i64 p.x, .int .i64 p.y, .int .i64 p.z, .int .i64 q.x, .int .i64 q.y, .int .i64 q.z, .int .i64 r.x, .int .i64 r.y, .int .i64 r.z] t)) w.heap.size [p, q, r] := by
  intro i hi
  match i, hi with
  | 0, _ => exact ⟨by simp [pt], by simp [pt], by simp [pt]⟩
  | 1, _ => exact ⟨by simp [pt], by simp [pt], by simp [pt]⟩
  | 2, _ => exact ⟨by simp [pt], by simp [pt], by simp [pt]⟩
theorem axis_len (A : List Pt) (n : Pt) : (withAxisP A n).length ≤ A.length + 1 := by unfold withAxisP; split <;> simp

set_option maxHeartbeats 2000000 in
set_option maxRecDepth 100000 in
theorem sides_any (v : Value) (L : List Pt) (w0 : World) (hv : Lies w0 v L) (hl : L.length ≤ 12) (hin : ∀ p ∈ L, p.inB 65536 = true) :
    Calls Try.prog 52 #[v] w0 fun e W => ∃ va ve, e = .returned (.tuple #[va, ve]) ∧ Two w0 W va ve (sidesP L).1 (sidesP L).2 [] := by
  obtain ⟨o, c, rfl, hlc, hcm, hcell⟩ := hv.form
  have HC : Hid _ := hcell
  have HIN : Hid _ := hin
  clear hv hcell hin
  obtain ⟨R, hR⟩ : ∃ R, sidesP L = R := ⟨_, rfl⟩
  rw [hR]
  have HR : Hid (outerP L (L.drop 0) ([], []) = R) := hR
  clear hR
  go_enter Try.func52, Try.ntmps52
  go_wp2_with (fail)
  go_loopg [2, 3, 18] L.length (fun gm s2 s3 s18 wr => ∃ (i : Nat) (A E : List Pt) (oa oe : Option Addr) (ca ce : Nat), s2 = .slice oa A.length ca ∧ s3 = .slice oe E.length ce ∧ s18 = .int .i64 (i : Int) ∧ i ≤ L.length ∧ gm = L.length - i ∧ A.length ≤ 144 * i ∧ E.length ≤ 432 * i ∧ Hid (outerP L (L.drop i) (A, E) = R) ∧ Hid (Two w0 wr (.slice oa A.length ca) (.slice oe E.length ce) A E []))
  case atStart => exact ⟨0, [], [], none, none, 0, 0, rfl, rfl, rfl, Nat.zero_le _, rfl, Nat.zero_le _, Nat.zero_le _, HR, Two.start w0⟩
  case round =>
    clear HR
    obtain ⟨i, A, E, oa, oe, ca, ce, rfl, rfl, rfl, hi, hgm, hA, hE, HD, HT⟩ := hrel
    have HG1 : Hid _ := hgm
    clear hgm
    by_cases hlt : i < L.length
    · obtain ⟨g, off, rfl, x0, x1, x2⟩ := HC.out i hlt
      have x0 := c_after HT.out.below x0
      have x1 := c_after HT.out.below x1
      have x2 := c_after HT.out.below x2
      have hain := HIN.out _ (pt_mem hlt)
      have HD : Hid (outerP L (L.drop (i + 1)) (midP L (pt L i) (L.drop (i + 1)) (A, E)) = R) := by show _ = _; rw [← HD.out, drop_pt hlt]; rfl
      generalize pt L i = pa at *
      go_wp2_with (fail)
      have HT : Hid _ := HT.out.new pa 26
      clear x0 x1 x2
      obtain ⟨W1, hW1⟩ : ∃ W1 : World, W1 = wr.alloc (.cells #[.int .i64 pa.x, .int .i64 pa.y, .int .i64 pa.z] 26) := ⟨_, rfl⟩
      obtain ⟨ba, hba⟩ : ∃ ba, ba = wr.heap.size := ⟨_, rfl⟩
      rw [← hW1, ← hba] at HT ⊢
      have hlba : ba < W1.heap.size := HT.out.head.lt
      clear hW1 hba
      go_loopg [2, 3, 6] (L.length - (i + 1)) (fun gm s2 s3 s6 wx => ∃ (j : Nat) (A E : List Pt) (oa oe : Option Addr) (ca ce : Nat), s2 = .slice oa A.length ca ∧ s3 = .slice oe E.length ce ∧ s6 = .int .i64 (j : Int) ∧ i + 1 ≤ j ∧ j ≤ L.length ∧ gm = L.length - j ∧ A.length ≤ 144 * i + 12 * j ∧ E.length ≤ 432 * i + 36 * j ∧ Hid (outerP L (L.drop (i + 1)) (midP L pa (L.drop j) (A, E)) = R) ∧ Hid (Two w0 wx (.slice oa A.length ca) (.slice oe E.length ce) A E [(ba, pa)]))
      case atStart => exact ⟨i + 1, A, E, oa, oe, ca, ce, rfl, rfl, by go_num, Nat.le_refl _, by omega, rfl, by omega, by omega, HD, HT⟩
      case round =>
        clear HD HT hA hE
        obtain ⟨j, A, E, oa, oe, ca, ce, rfl, rfl, rfl, hij, hj, hgm, hA, hE, HD, HT⟩ := hrel
        have HG2 : Hid _ := hgm
        clear hgm
        by_cases hjt : j < L.length
        · obtain ⟨g', off', e', x0, x1, x2⟩ := HC.out j hjt
          simp only [Option.some.injEq, Addr.mk.injEq, and_true] at e'
          obtain ⟨rfl, rfl⟩ := e'
          have x0 := c_after HT.out.below x0
          have x1 := c_after HT.out.below x1
          have x2 := c_after HT.out.below x2
          have hbin := HIN.out _ (pt_mem hjt)
          have HD : Hid (outerP L (L.drop (i + 1)) (midP L pa (L.drop (j + 1)) (innerP L pa (pt L j) (L.drop (j + 1)) (A, E))) = R) := by show _ = _; rw [← HD.out, drop_pt hjt]; rfl
          generalize pt L j = pb at *
          have HT0 : Hid _ := HT.out
          by_cases hjc : c = j + 1
          · have HD : Hid (outerP L (L.drop (i + 1)) (midP L pa (L.drop (j + 1)) (A, E)) = R) := by show _ = _; rw [← HD.out, List.drop_eq_nil_of_le (by omega : L.length ≤ j + 1)]; rfl
            have hLj : L.length = j + 1 := by omega
            have hz : c - (j + 1) = 0 := by omega
            go_wp2_with (fail)
            go_step3
            go_wp2_with (fail)
            go_step3
            go_wp2_with (fail)
            go_rounds 1
            rw [Exit.noGoto_normal]
            go_wp2_with (fail)
            go_roundg (L.length - (j + 1))
            case measure => have := HG2.out; omega
            case rel => exact ⟨j + 1, A, E, oa, oe, ca, ce, rfl, rfl, by go_num, by omega, by omega, rfl, by omega, by omega, HD, HT.out.step (n_after _ _)⟩
          have hjc' : j + 1 < c := by omega
          go_wp2_with (fail)
          go_step3
          go_wp2_with (fail)
          go_step3
          go_wp2_with (fail)
          have HT : Hid _ := HT.out.new pb 26
          clear x0 x1 x2
          obtain ⟨W2, hW2⟩ : ∃ W2 : World, W2 = wr.alloc (.cells #[.int .i64 pb.x, .int .i64 pb.y, .int .i64 pb.z] 26) := ⟨_, rfl⟩
          obtain ⟨bb, hbb⟩ : ∃ bb, bb = wr.heap.size := ⟨_, rfl⟩
          rw [← hW2, ← hbb] at HT ⊢
          have hlbb : bb < W2.heap.size := HT.out.head.lt
          have hab : ba < bb := by rw [hbb]; exact HT0.out.head.lt
          clear hW2 hbb HT0
          go_loopg [2, 3, 40] (L.length - (j + 1)) (fun gm s2 s3 s40 wy => ∃ (k : Nat) (A E : List Pt) (oa oe : Option Addr) (ca ce : Nat), s2 = .slice oa A.length ca ∧ s3 = .slice oe E.length ce ∧ s40 = .int .i64 (k : Int) ∧ k ≤ L.length - (j + 1) ∧ gm = L.length - (j + 1) - k ∧ A.length ≤ 144 * i + 12 * j + k ∧ E.length ≤ 432 * i + 36 * j + 3 * k ∧ Hid (outerP L (L.drop (i + 1)) (midP L pa (L.drop (j + 1)) (innerP L pa pb (L.drop (j + 1 + k)) (A, E))) = R) ∧ Hid (Two w0 wy (.slice oa A.length ca) (.slice oe E.length ce) A E [(bb, pb), (ba, pa)]))
          case atStart => exact ⟨0, A, E, oa, oe, ca, ce, rfl, rfl, rfl, Nat.zero_le _, rfl, by omega, by omega, HD, HT⟩
          case round =>
            clear HD HT hA hE
            obtain ⟨k, A, E, oa, oe, ca, ce, rfl, rfl, rfl, hk, hgm, hA, hE, HD, HT⟩ := hrel
            have HG3 : Hid _ := hgm
            clear hgm
            have HT1 : Hid _ := HT.out
            by_cases hkt : k < L.length - (j + 1)
            · have hkl : j + 1 + k < L.length := by omega
              have hkz : (k : Int) < (L.length : Int) - ((j : Int) + 1) := by omega
              obtain ⟨g', off', e', x0, x1, x2⟩ := HC.out (j + 1 + k) hkl
              simp only [Option.some.injEq, Addr.mk.injEq, and_true] at e'
              obtain ⟨rfl, rfl⟩ := e'
              rw [show off + (j + 1 + k) * 3 = off + (j + 1) * 3 + k * 3 by omega] at x0 x1 x2
              have x0 := c_after HT.out.below x0
              have x1 := c_after HT.out.below x1
              have x2 := c_after HT.out.below x2
              have hcin := HIN.out _ (pt_mem hkl)
              have HD : Hid (outerP L (L.drop (i + 1)) (midP L pa (L.drop (j + 1)) (innerP L pa pb (L.drop (j + 1 + (k + 1))) (triP L pa pb (pt L (j + 1 + k)) (A, E)))) = R) := by show _ = _; rw [← HD.out, drop_pt hkl]; rfl
              generalize pt L (j + 1 + k) = pc at *
              go_upto_region 11 with fail
              have HT : Hid _ := HT.out.new pc 26
              obtain ⟨W3, hW3⟩ : ∃ W3 : World, W3 = wr.alloc (.cells #[.int .i64 pc.x, .int .i64 pc.y, .int .i64 pc.z] 26) := ⟨_, rfl⟩
              obtain ⟨bc, hbc⟩ : ∃ bc, bc = wr.heap.size := ⟨_, rfl⟩
              have hbbc : bb < bc := by rw [hbc]; exact HT1.out.head.lt
              rw [← hW3, ← hbc] at HT ⊢
              clear hW3 hbc HT1 x0 x1 x2
              have hlbc : bc < W3.heap.size := HT.out.head.lt
              obtain ⟨p0, p1, p2, _, _, _⟩ := (HT.out.box (ba, pa) (by simp)).1
              obtain ⟨q0, q1, q2, _, _, _⟩ := (HT.out.box (bb, pb) (by simp)).1
              obtain ⟨s0, s1, s2, _, _, _⟩ := (HT.out.box (bc, pc) (by simp)).1
              go_wp2_with (fail)
              refine Calls.mono (across_any pa pb pc _ hain hbin hcin) ?_
              rintro e W4 ⟨rfl, hb4⟩
              have HT : Hid _ := HT.out.step hb4
              have hlc4 : bc < W4.heap.size := Nat.lt_of_lt_of_le hlbc hb4.size
              clear hb4 p0 p1 p2 q0 q1 q2 s0 s1 s2
              have hnin := cross_in (sub_in hbin hain) (sub_in hcin hain)
              have HTR : Hid (triP L pa pb pc (A, E) = if (pb.sub pa).cross (pc.sub pa) = Pt.O ∨ (above L ((pb.sub pa).cross (pc.sub pa)) pa = true ∧ below L ((pb.sub pa).cross (pc.sub pa)) pa = true) then (A, E) else (withAxisP A (if above L ((pb.sub pa).cross (pc.sub pa)) pa then ((pb.sub pa).cross (pc.sub pa)).neg else (pb.sub pa).cross (pc.sub pa)).short, withEdgesP E [pb.sub pa, pc.sub pa, pc.sub pb])) := rfl
              generalize (pb.sub pa).cross (pc.sub pa) = n at *
              generalize triP L pa pb pc (A, E) = T at *
              unfold Pt.v
              go_upto_region 12 with fail
              have HT : Hid _ := HT.out.new n 26
              obtain ⟨W5, hW5⟩ : ∃ W5 : World, W5 = W4.alloc (.cells #[.int .i64 n.x, .int .i64 n.y, .int .i64 n.z] 26) := ⟨_, rfl⟩
              obtain ⟨bn, hbn⟩ : ∃ bn, bn = W4.heap.size := ⟨_, rfl⟩
              have hbcn : bc < bn := by rw [hbn]; exact hlc4
              rw [← hW5, ← hbn] at HT ⊢
              clear hW5 hbn
              obtain ⟨s0, s1, s2, _, _, _⟩ := HT.out.head
              go_cut [40, 50] from 40 to 96 (fun s40 s50 wc => s40 = .int .i64 (k : Int) ∧ s50 = .bool (decide (n = Pt.O)) ∧ wc = W5)
              case first =>
                by_cases ex : n.x = 0
                · by_cases ey : n.y = 0
                  · by_cases ez : n.z = 0
                    · go_wp2_with (fail)
                      go_meet
                      case rel => exact ⟨rfl, by simp [pt_eq, Pt.O, ex, ey, ez], rfl⟩
                    · have e1 : (n.z == 0) = false := beq_eq_false_iff_ne.2 ez
                      go_wp2_with (fail)
                      go_meet
                      case rel => exact ⟨rfl, by simp [pt_eq, Pt.O, ez], rfl⟩
                  · have e1 : (n.y == 0) = false := beq_eq_false_iff_ne.2 ey
                    go_wp2_with (fail)
                    go_meet
                    case rel => exact ⟨rfl, by simp [pt_eq, Pt.O, ey], rfl⟩
                · have e1 : (n.x == 0) = false := beq_eq_false_iff_ne.2 ex
                  go_wp2_with (fail)
                  go_meet
                  case rel => exact ⟨rfl, by simp [pt_eq, Pt.O, ex], rfl⟩
              case rest =>
                obtain ⟨rfl, rfl, hwc⟩ := hcut
                subst hwc
                clear s0 s1 s2
                by_cases hn : n = Pt.O
                · have e : T = (A, E) := by rw [HTR.out, if_pos (Or.inl hn)]
                  have hd : decide (n = Pt.O) = true := decide_eq_true hn
                  rw [hd]
                  subst e
                  clear HTR hd hn
                  go_wp2_with (fail)
                  go_roundg (L.length - (j + 1) - (k + 1))
                  case measure => have := HG3.out; omega
                  case rel => exact ⟨k + 1, A, E, oa, oe, ca, ce, rfl, rfl, by go_num, by omega, rfl, by omega, by omega, HD, HT.out.tail.tail⟩
                have hd : decide (n = Pt.O) = false := decide_eq_false hn
                rw [hd]
                have HTR : Hid (T = if (above L n pa = true ∧ below L n pa = true) then (A, E) else (withAxisP A (if above L n pa then n.neg else n).short, withEdgesP E [pb.sub pa, pc.sub pa, pc.sub pb])) := by
                  show _ = _
                  rw [HTR.out]
                  by_cases h2 : above L n pa = true ∧ below L n pa = true
                  · rw [if_pos (Or.inr h2), if_pos h2]
                  · rw [if_neg (fun h => h.elim hn h2), if_neg h2]
                clear hd hn
                go_wp2_with (fail)
                go_loopg [11, 12, 53] L.length (fun gm s11 s12 s53 wz => ∃ (q : Nat) (ab be : Bool), s11 = .bool ab ∧ s12 = .bool be ∧ s53 = .int .i64 (q : Int) ∧ q ≤ L.length ∧ gm = L.length - q ∧ Hid (ab = above (L.take q) n pa) ∧ Hid (be = below (L.take q) n pa) ∧ Hid (¬ (ab = true ∧ be = true)) ∧ Hid (Two w0 wz (.slice oa A.length ca) (.slice oe E.length ce) A E [(bn, n), (bc, pc), (bb, pb), (ba, pa)]))
                case atStart => exact ⟨0, false, false, rfl, rfl, rfl, Nat.zero_le _, rfl, rfl, rfl, (fun h => by cases h.1), HT⟩
                case round =>
                  clear HT
                  obtain ⟨q, ab, be, rfl, rfl, rfl, hq, hgm, HAB, HBE, HNB, HT⟩ := hrel
                  have HG4 : Hid _ := hgm
                  clear hgm
                  by_cases hqt : q < L.length
                  · obtain ⟨g', off', e', x0, x1, x2⟩ := HC.out q hqt
                    simp only [Option.some.injEq, Addr.mk.injEq, and_true] at e'
                    obtain ⟨rfl, rfl⟩ := e'
                    have x0 := c_after HT.out.below x0
                    have x1 := c_after HT.out.below x1
                    have x2 := c_after HT.out.below x2
                    have hmin := HIN.out _ (pt_mem hqt)
                    have HS1 : Hid (above (L.take (q + 1)) n pa = (ab || decide (0 < n.dot ((pt L q).sub pa)))) := by show _ = _; rw [HAB.out]; exact any_snoc L _ q hqt
                    have HS2 : Hid (below (L.take (q + 1)) n pa = (be || decide (n.dot ((pt L q).sub pa) < 0))) := by show _ = _; rw [HBE.out]; exact any_snoc L _ q hqt
                    clear HAB HBE
                    generalize pt L q = m at *
                    go_upto_region 17 with fail
                    have HT : Hid _ := HT.out.new m 26
                    obtain ⟨W6, hW6⟩ : ∃ W6 : World, W6 = wr.alloc (.cells #[.int .i64 m.x, .int .i64 m.y, .int .i64 m.z] 26) := ⟨_, rfl⟩
                    obtain ⟨bm, hbm⟩ : ∃ bm, bm = wr.heap.size := ⟨_, rfl⟩
                    rw [← hW6, ← hbm] at HT ⊢
                    clear hW6 hbm x0 x1 x2
                    have L1 : Hid _ := fun w' => less_any m pa w' (inB_mono hmin (by decide)) (inB_mono hain (by decide))
                    have L2 : Hid _ := fun w' => dot_any n (m.sub pa) w' hnin (sub_in hmin hain)
                    unfold Pt.v at L1 L2
                    obtain ⟨p0, p1, p2, _, _, _⟩ := (HT.out.box (ba, pa) (by simp)).1
                    obtain ⟨q0, q1, q2, _, _, _⟩ := (HT.out.box (bn, n) (by simp)).1
                    obtain ⟨s0, s1, s2, _, _, _⟩ := (HT.out.box (bm, m) (by simp)).1
                    dsimp only at p0 p1 p2 q0 q1 q2 s0 s1 s2
                    refine RV.region_by (fun j v w => match j with | 0 => v = .agg #[.int .i64 (n.x), .int .i64 (n.y), .int .i64 (n.z)] | 1 => v = .agg #[.int .i64 (m.x), .int .i64 (m.y), .int .i64 (m.z)] | 2 => v = .agg #[.int .i64 (pa.x), .int .i64 (pa.y), .int .i64 (pa.z)] | 3 => v = .agg #[.int .i64 ((m.sub pa).x), .int .i64 ((m.sub pa).y), .int .i64 ((m.sub pa).z)] | 4 => v = .int .i64 (n.dot (m.sub pa)) | 5 => v = .int .i64 (n.dot (m.sub pa)) | _ => True) (fun γ L w9 => Below W6.heap.size W6 w9) (by kernel_rfl) (by kernel_rfl) (by kernel_rfl) (by kernel_rfl) ?_ ?_ ?_
                    · exact (Below.refl _ W6).drew
                    · generalize hD : dstOf _ = D
                      generalize hWA : waitsFor _ = WA
                      generalize hZ : Act.mk _ _ = Z
                      obtain ⟨R, hR⟩ : ∃ R : Nat → Value → World → Prop, R = (fun j v w => match j with | 0 => v = .agg #[.int .i64 (n.x), .int .i64 (n.y), .int .i64 (n.z)] | 1 => v = .agg #[.int .i64 (m.x), .int .i64 (m.y), .int .i64 (m.z)] | 2 => v = .agg #[.int .i64 (pa.x), .int .i64 (pa.y), .int .i64 (pa.z)] | 3 => v = .agg #[.int .i64 ((m.sub pa).x), .int .i64 ((m.sub pa).y), .int .i64 ((m.sub pa).z)] | 4 => v = .int .i64 (n.dot (m.sub pa)) | 5 => v = .int .i64 (n.dot (m.sub pa)) | _ => True) := ⟨_, rfl⟩
                      rw [← hR]
                      have d0 : D 0 = some 57 := by rw [← hD]; rfl
                      have d1 : D 1 = some 58 := by rw [← hD]; rfl
                      have d2 : D 2 = some 59 := by rw [← hD]; rfl
                      have d3 : D 3 = some 60 := by rw [← hD]; rfl
                      have d4 : D 4 = some 61 := by rw [← hD]; rfl
                      have d5 : D 5 = some 15 := by rw [← hD]; rfl
                      have r0 : ∀ v w, R 0 v w = (v = .agg #[.int .i64 (n.x), .int .i64 (n.y), .int .i64 (n.z)]) := fun v w => by rw [hR]; rfl
                      have r1 : ∀ v w, R 1 v w = (v = .agg #[.int .i64 (m.x), .int .i64 (m.y), .int .i64 (m.z)]) := fun v w => by rw [hR]; rfl
                      have r2 : ∀ v w, R 2 v w = (v = .agg #[.int .i64 (pa.x), .int .i64 (pa.y), .int .i64 (pa.z)]) := fun v w => by rw [hR]; rfl
                      have r3 : ∀ v w, R 3 v w = (v = .agg #[.int .i64 ((m.sub pa).x), .int .i64 ((m.sub pa).y), .int .i64 ((m.sub pa).z)]) := fun v w => by rw [hR]; rfl
                      have r4 : ∀ v w, R 4 v w = (v = .int .i64 (n.dot (m.sub pa))) := fun v w => by rw [hR]; rfl
                      have r5 : ∀ v w, R 5 v w = (v = .int .i64 (n.dot (m.sub pa))) := fun v w => by rw [hR]; rfl
                      have E5 : ∀ (γ : Nat → Value) (L : Nat → Bool) (a : Act) (w : World), RV.Held D WA R (fun γ L w9 => Below W6.heap.size W6 w9) Z γ L a w → a.tmps[5]? = some (.pointer (some ⟨ba, 0, none⟩)) := fun γ L a w hH => (hH.rest 5 (by rw [← hD]; exact RV.dst_free (by kernel_rfl))).trans (by rw [← hZ]; rfl)
                      have E10 : ∀ (γ : Nat → Value) (L : Nat → Bool) (a : Act) (w : World), RV.Held D WA R (fun γ L w9 => Below W6.heap.size W6 w9) Z γ L a w → a.tmps[10]? = some (.pointer (some ⟨bn, 0, none⟩)) := fun γ L a w hH => (hH.rest 10 (by rw [← hD]; exact RV.dst_free (by kernel_rfl))).trans (by rw [← hZ]; rfl)
                      have E14 : ∀ (γ : Nat → Value) (L : Nat → Bool) (a : Act) (w : World), RV.Held D WA R (fun γ L w9 => Below W6.heap.size W6 w9) Z γ L a w → a.tmps[14]? = some (.pointer (some ⟨bm, 0, none⟩)) := fun γ L a w hH => (hH.rest 14 (by rw [← hD]; exact RV.dst_free (by kernel_rfl))).trans (by rw [← hZ]; rfl)
                      have K : ∀ j v w w', R j v w → R j v w' := by rw [hR]; intro j v w w' h; exact h
                      clear hD hWA hZ hR
                      refine RV.AllDo.cons 0 (RV.does_pure (fun γ v L w hl h => h) (fun γ L a w hH hl hA => by have e0 := E10 γ L a w hH; have hB9 := hH.glob; have z0 := c_after hB9 q0; have z1 := c_after hB9 q1; have z2 := c_after hB9 q2; exact ⟨.agg #[.int .i64 (n.x), .int .i64 (n.y), .int .i64 (n.z)], by simp [execOp, go_sem, e0, z0, z1, z2], (r0 _ _).mpr rfl⟩)) ?_
                      refine RV.AllDo.cons 1 (RV.does_pure (fun γ v L w hl h => h) (fun γ L a w hH hl hA => by have e0 := E14 γ L a w hH; have hB9 := hH.glob; have z0 := c_after hB9 s0; have z1 := c_after hB9 s1; have z2 := c_after hB9 s2; exact ⟨.agg #[.int .i64 (m.x), .int .i64 (m.y), .int .i64 (m.z)], by simp [execOp, go_sem, e0, z0, z1, z2], (r1 _ _).mpr rfl⟩)) ?_
                      refine RV.AllDo.cons 2 (RV.does_pure (fun γ v L w hl h => h) (fun γ L a w hH hl hA => by have e0 := E5 γ L a w hH; have hB9 := hH.glob; have z0 := c_after hB9 p0; have z1 := c_after hB9 p1; have z2 := c_after hB9 p2; exact ⟨.agg #[.int .i64 (pa.x), .int .i64 (pa.y), .int .i64 (pa.z)], by simp [execOp, go_sem, e0, z0, z1, z2], (r2 _ _).mpr rfl⟩)) ?_
                      refine RV.AllDo.cons 3 (RV.does_call (fun γ L a w hH hl hA => by have l0 : L 1 = true := hA ⟨1, .data⟩ (by simp) rfl; have e0 := hH.slot 1 58 d1 l0; have g0 := hH.holds 1 l0; rw [r1] at g0; rw [g0] at e0; have l1 : L 2 = true := hA ⟨2, .data⟩ (by simp) rfl; have e1 := hH.slot 2 59 d2 l1; have g1 := hH.holds 2 l1; rw [r2] at g1; rw [g1] at e1; have hB9 := hH.glob; exact ⟨83, #[.agg #[.int .i64 (m.x), .int .i64 (m.y), .int .i64 (m.z)], .agg #[.int .i64 (pa.x), .int .i64 (pa.y), .int .i64 (pa.z)]], by simp [go_sem, e0, e1], Calls.mono (L1.out w) (by rintro e w2 ⟨rfl, hb⟩; exact ⟨_, rfl, (r3 _ _).mpr rfl, fun j v _ h => K j v _ _ h, hB9.trans (hb.mono hB9.size)⟩)⟩)) ?_
                      refine RV.AllDo.cons 4 (RV.does_call (fun γ L a w hH hl hA => by have l0 : L 0 = true := hA ⟨0, .data⟩ (by simp) rfl; have e0 := hH.slot 0 57 d0 l0; have g0 := hH.holds 0 l0; rw [r0] at g0; rw [g0] at e0; have l1 : L 3 = true := hA ⟨3, .data⟩ (by simp) rfl; have e1 := hH.slot 3 60 d3 l1; have g1 := hH.holds 3 l1; rw [r3] at g1; rw [g1] at e1; have hB9 := hH.glob; exact ⟨82, #[.agg #[.int .i64 (n.x), .int .i64 (n.y), .int .i64 (n.z)], .agg #[.int .i64 ((m.sub pa).x), .int .i64 ((m.sub pa).y), .int .i64 ((m.sub pa).z)]], by simp [go_sem, e0, e1], Calls.mono (L2.out w) (by rintro e w2 ⟨rfl, hb⟩; exact ⟨_, rfl, (r4 _ _).mpr rfl, fun j v _ h => K j v _ _ h, hB9.trans (hb.mono hB9.size)⟩)⟩)) ?_
                      refine RV.AllDo.cons 5 (RV.does_pure (fun γ v L w hl h => h) (fun γ L a w hH hl hA => by have l0 : L 4 = true := hA ⟨4, .data⟩ (by simp) rfl; have e0 := hH.slot 4 61 d4 l0; have g0 := hH.holds 4 l0; rw [r4] at g0; rw [g0] at e0; exact ⟨.int .i64 (n.dot (m.sub pa)), by simp [execOp, go_sem, e0], (r5 _ _).mpr rfl⟩)) ?_
                      exact RV.AllDo.nil
                    · intro γ a5 w5 L9 hL hLo hH
                      have ha := RV.held_act hH hL (by kernel_rfl) (by kernel_rfl)
                      have hb8 := hH.glob
                      have y0 : γ 0 = .agg #[.int .i64 (n.x), .int .i64 (n.y), .int .i64 (n.z)] := hH.holds 0 (hL 0 (by decide))
                      have y1 : γ 1 = .agg #[.int .i64 (m.x), .int .i64 (m.y), .int .i64 (m.z)] := hH.holds 1 (hL 1 (by decide))
                      have y2 : γ 2 = .agg #[.int .i64 (pa.x), .int .i64 (pa.y), .int .i64 (pa.z)] := hH.holds 2 (hL 2 (by decide))
                      have y3 : γ 3 = .agg #[.int .i64 ((m.sub pa).x), .int .i64 ((m.sub pa).y), .int .i64 ((m.sub pa).z)] := hH.holds 3 (hL 3 (by decide))
                      have y4 : γ 4 = .int .i64 (n.dot (m.sub pa)) := hH.holds 4 (hL 4 (by decide))
                      have y5 : γ 5 = .int .i64 (n.dot (m.sub pa)) := hH.holds 5 (hL 5 (by decide))
                      rw [ha]
                      clear ha hH hL hLo
                      simp only [RV.putAll, Act.put, List.setIfInBounds_toArray, List.set_cons_zero, List.set_cons_succ, Nat.zero_add, Nat.reduceAdd, y0, y1, y2, y3, y4, y5]
                      clear y0 y1 y2 y3 y4 y5
                      have HT : Hid _ := (HT.out.step hb8).tail
                      clear hb8 L1 L2 p0 p1 p2 q0 q1 q2 s0 s1 s2
                      generalize n.dot (m.sub pa) = dd at *
                      rcases Int.lt_trichotomy dd 0 with hs | hs | hs
                      · cases ab with
                        | true =>
                          cases be with
                          | true =>
                            exact absurd ⟨rfl, rfl⟩ HNB.out
                          | false =>
                            have K1 : Hid (true = above (L.take (q + 1)) n pa) := by show _ = _; rw [HS1.out]; simp; try omega
                            have K2 : Hid (true = below (L.take (q + 1)) n pa) := by show _ = _; rw [HS2.out]; simp; try omega
                            clear HS1 HS2 HNB
                            go_wp2_with (fail)
                            have e : T = (A, E) := by rw [HTR.out, if_pos ⟨any_takeP K1.out.symm, any_takeP K2.out.symm⟩]
                            subst e
                            go_roundg (L.length - (j + 1) - (k + 1))
                            case measure => have := HG3.out; omega
                            case rel => exact ⟨k + 1, A, E, oa, oe, ca, ce, rfl, rfl, by go_num, by omega, rfl, by omega, by omega, HD, HT.out.tail.tail⟩
                        | false =>
                          cases be with
                          | true =>
                            have K1 : Hid (false = above (L.take (q + 1)) n pa) := by show _ = _; rw [HS1.out]; simp; try omega
                            have K2 : Hid (true = below (L.take (q + 1)) n pa) := by show _ = _; rw [HS2.out]; simp; try omega
                            clear HS1 HS2 HNB
                            go_wp2_with (fail)
                            go_roundg (L.length - (q + 1))
                            case measure => have := HG4.out; omega
                            case rel => exact ⟨q + 1, false, true, (by first | rfl | (simp; omega)), (by first | rfl | (simp; omega)), by go_num, by omega, rfl, K1, K2, (fun h => by cases h.1), HT⟩
                          | false =>
                            have K1 : Hid (false = above (L.take (q + 1)) n pa) := by show _ = _; rw [HS1.out]; simp; try omega
                            have K2 : Hid (true = below (L.take (q + 1)) n pa) := by show _ = _; rw [HS2.out]; simp; try omega
                            clear HS1 HS2 HNB
                            go_wp2_with (fail)
                            go_roundg (L.length - (q + 1))
                            case measure => have := HG4.out; omega
                            case rel => exact ⟨q + 1, false, true, (by first | rfl | (simp; omega)), (by first | rfl | (simp; omega)), by go_num, by omega, rfl, K1, K2, (fun h => by cases h.1), HT⟩
                      · subst hs
                        cases ab with
                        | true =>
                          cases be with
                          | true =>
                            exact absurd ⟨rfl, rfl⟩ HNB.out
                          | false =>
                            have K1 : Hid (true = above (L.take (q + 1)) n pa) := by show _ = _; rw [HS1.out]; simp; try omega
                            have K2 : Hid (false = below (L.take (q + 1)) n pa) := by show _ = _; rw [HS2.out]; simp; try omega
                            clear HS1 HS2 HNB
                            go_wp2_with (fail)
                            go_roundg (L.length - (q + 1))
                            case measure => have := HG4.out; omega
                            case rel => exact ⟨q + 1, true, false, (by first | rfl | (simp; omega)), (by first | rfl | (simp; omega)), by go_num, by omega, rfl, K1, K2, (fun h => by cases h.2), HT⟩
                        | false =>
                          cases be with
                          | true =>
                            have K1 : Hid (false = above (L.take (q + 1)) n pa) := by show _ = _; rw [HS1.out]; simp; try omega
                            have K2 : Hid (true = below (L.take (q + 1)) n pa) := by show _ = _; rw [HS2.out]; simp; try omega
                            clear HS1 HS2 HNB
                            go_wp2_with (fail)
                            go_roundg (L.length - (q + 1))
                            case measure => have := HG4.out; omega
                            case rel => exact ⟨q + 1, false, true, (by first | rfl | (simp; omega)), (by first | rfl | (simp; omega)), by go_num, by omega, rfl, K1, K2, (fun h => by cases h.1), HT⟩
                          | false =>
                            have K1 : Hid (false = above (L.take (q + 1)) n pa) := by show _ = _; rw [HS1.out]; simp; try omega
                            have K2 : Hid (false = below (L.take (q + 1)) n pa) := by show _ = _; rw [HS2.out]; simp; try omega
                            clear HS1 HS2 HNB
                            go_wp2_with (fail)
                            go_roundg (L.length - (q + 1))
                            case measure => have := HG4.out; omega
                            case rel => exact ⟨q + 1, false, false, (by first | rfl | (simp; omega)), (by first | rfl | (simp; omega)), by go_num, by omega, rfl, K1, K2, (fun h => by cases h.1), HT⟩
                      · cases ab with
                        | true =>
                          cases be with
                          | true =>
                            exact absurd ⟨rfl, rfl⟩ HNB.out
                          | false =>
                            have K1 : Hid (true = above (L.take (q + 1)) n pa) := by show _ = _; rw [HS1.out]; simp; try omega
                            have K2 : Hid (false = below (L.take (q + 1)) n pa) := by show _ = _; rw [HS2.out]; simp; try omega
                            clear HS1 HS2 HNB
                            go_wp2_with (fail)
                            go_roundg (L.length - (q + 1))
                            case measure => have := HG4.out; omega
                            case rel => exact ⟨q + 1, true, false, (by first | rfl | (simp; omega)), (by first | rfl | (simp; omega)), by go_num, by omega, rfl, K1, K2, (fun h => by cases h.2), HT⟩
                        | false =>
                          cases be with
                          | true =>
                            have K1 : Hid (true = above (L.take (q + 1)) n pa) := by show _ = _; rw [HS1.out]; simp; try omega
                            have K2 : Hid (true = below (L.take (q + 1)) n pa) := by show _ = _; rw [HS2.out]; simp; try omega
                            clear HS1 HS2 HNB
                            go_wp2_with (fail)
                            have e : T = (A, E) := by rw [HTR.out, if_pos ⟨any_takeP K1.out.symm, any_takeP K2.out.symm⟩]
                            subst e
                            go_roundg (L.length - (j + 1) - (k + 1))
                            case measure => have := HG3.out; omega
                            case rel => exact ⟨k + 1, A, E, oa, oe, ca, ce, rfl, rfl, by go_num, by omega, rfl, by omega, by omega, HD, HT.out.tail.tail⟩
                          | false =>
                            have K1 : Hid (true = above (L.take (q + 1)) n pa) := by show _ = _; rw [HS1.out]; simp; try omega
                            have K2 : Hid (false = below (L.take (q + 1)) n pa) := by show _ = _; rw [HS2.out]; simp; try omega
                            clear HS1 HS2 HNB
                            go_wp2_with (fail)
                            go_roundg (L.length - (q + 1))
                            case measure => have := HG4.out; omega
                            case rel => exact ⟨q + 1, true, false, (by first | rfl | (simp; omega)), (by first | rfl | (simp; omega)), by go_num, by omega, rfl, K1, K2, (fun h => by cases h.2), HT⟩
                  · have hno : ¬ (above L n pa = true ∧ below L n pa = true) := by
                      have e1 := HAB.out
                      have e2 := HBE.out
                      rw [List.take_of_length_le (by omega : L.length ≤ q)] at e1 e2
                      rw [← e1, ← e2]; exact HNB.out
                    have HTR : Hid (T = (withAxisP A (if ab then n.neg else n).short, withEdgesP E [pb.sub pa, pc.sub pa, pc.sub pb])) := by
                      have e1 := HAB.out
                      rw [List.take_of_length_le (by omega : L.length ≤ q)] at e1
                      show _ = _
                      rw [HTR.out, if_neg hno, e1]
                    clear hno HAB HBE HNB
                    go_upto_if 77 with fail
                    go_cut [40] from 40 to 96 (fun s40 wc => s40 = .int .i64 (k : Int) ∧ Hid (Two w0 wc (.slice oa A.length ca) (.slice oe E.length ce) A E [(bn, if ab then n.neg else n), (bc, pc), (bb, pb), (ba, pa)]))
                    case first =>
                      cases ab with
                      | true =>
                        obtain ⟨c0, c1, c2, f0, f1, f2⟩ := HT.out.head
                        dsimp only at c0 c1 c2 f0 f1 f2
                        go_wp2_with (fail)
                        refine Calls.mono (back_any n _ (inB_mono hnin (by decide))) ?_
                        rintro e W7 ⟨rfl, hb7⟩
                        have HT : Hid _ := (HT.out.step hb7).set (by intro x hx; simp at hx; rcases hx with rfl | rfl | rfl <;> simp <;> omega) n.neg
                        have d0 := c_after hb7 c0
                        have d1 := c_after hb7 c1
                        have d2 := c_after hb7 c2
                        have f0 := f_after hb7 c0 f0
                        have f1 := f_after hb7 c1 f1
                        have f2 := f_after hb7 c2 f2
                        clear c0 c1 c2 hb7
                        unfold set3 at HT
                        unfold Pt.v
                        go_wp2_with (fail)
                        go_meet
                        case rel => exact ⟨rfl, HT⟩
                      | false =>
                        go_wp2_with (fail)
                        go_meet
                        case rel => exact ⟨rfl, HT⟩
                    case rest =>
                      clear HT
                      obtain ⟨rfl, HT⟩ := hcut
                      have HTE := HTR.out
                      clear HTR
                      generalize (if ab then n.neg else n) = n2 at *
                      subst HTE
                      obtain ⟨c0, c1, c2, _, _, _⟩ := HT.out.head
                      dsimp only at c0 c1 c2
                      go_wp2_with (fail)
                      refine Calls.mono (short_any n2 _) ?_
                      rintro e W8 ⟨rfl, hb8⟩
                      have HT : Hid _ := HT.out.step hb8
                      clear hb8 c0 c1 c2
                      generalize n2.short = n3 at *
                      unfold Pt.v
                      go_wp2_with (fail)
                      refine Calls.mono (withAxis_any w0.heap.size _ A n3 W8 HT.out.ra HT.out.below.size (by omega)) ?_
                      rintro e W9 ⟨va', rfl, hr, hgr⟩
                      have HT : Hid _ := HT.out.axis hr hgr
                      clear hr hgr
                      obtain ⟨oa', ca', rfl, _⟩ := (Lies.of_row HT.out.ra).form
                      have hA' := axis_len A n3
                      generalize withAxisP A n3 = A' at *
                      go_upto_region 24 with fail
                      have L1 : Hid _ := fun w' => less_any pb pa w' (inB_mono hbin (by decide)) (inB_mono hain (by decide))
                      have L2 : Hid _ := fun w' => less_any pc pa w' (inB_mono hcin (by decide)) (inB_mono hain (by decide))
                      have L3 : Hid _ := fun w' => less_any pc pb w' (inB_mono hcin (by decide)) (inB_mono hbin (by decide))
                      unfold Pt.v at L1 L2 L3
                      obtain ⟨p0, p1, p2, _, _, _⟩ := (HT.out.box (ba, pa) (by simp)).1
                      obtain ⟨q0, q1, q2, _, _, _⟩ := (HT.out.box (bb, pb) (by simp)).1
                      obtain ⟨s0, s1, s2, _, _, _⟩ := (HT.out.box (bc, pc) (by simp)).1
                      dsimp only at p0 p1 p2 q0 q1 q2 s0 s1 s2
                      have hE' := edges_len E [pb.sub pa, pc.sub pa, pc.sub pb]
                      refine RV.region_by (fun j v w => match j with | 0 => v = .slice oe E.length ce | 1 => v = .agg #[.int .i64 (pb).x, .int .i64 (pb).y, .int .i64 (pb).z] | 2 => v = .agg #[.int .i64 (pa).x, .int .i64 (pa).y, .int .i64 (pa).z] | 3 => v = .agg #[.int .i64 (pb.sub pa).x, .int .i64 (pb.sub pa).y, .int .i64 (pb.sub pa).z] | 4 => v = .agg #[.int .i64 (pc).x, .int .i64 (pc).y, .int .i64 (pc).z] | 5 => v = .agg #[.int .i64 (pa).x, .int .i64 (pa).y, .int .i64 (pa).z] | 6 => v = .agg #[.int .i64 (pc.sub pa).x, .int .i64 (pc.sub pa).y, .int .i64 (pc.sub pa).z] | 7 => v = .agg #[.int .i64 (pc).x, .int .i64 (pc).y, .int .i64 (pc).z] | 8 => v = .agg #[.int .i64 (pb).x, .int .i64 (pb).y, .int .i64 (pb).z] | 9 => v = .agg #[.int .i64 (pc.sub pb).x, .int .i64 (pc.sub pb).y, .int .i64 (pc.sub pb).z] | 10 => (fun v w => ∃ g, v = .slice (some ⟨g, 0, none⟩) 3 3 ∧ W9.heap.size ≤ g ∧ g < w.heap.size ∧ At w g [pb.sub pa, pc.sub pa, pc.sub pb]) v w | 11 => (fun v w => w.ownsRow w0.heap.size 26 3 v (withEdgesP E [pb.sub pa, pc.sub pa, pc.sub pb]).length (fl3 (withEdgesP E [pb.sub pa, pc.sub pa, pc.sub pb])) ∧ Grew W9 w (.slice oe E.length ce) v) v w | 12 => (fun v w => w.ownsRow w0.heap.size 26 3 v (withEdgesP E [pb.sub pa, pc.sub pa, pc.sub pb]).length (fl3 (withEdgesP E [pb.sub pa, pc.sub pa, pc.sub pb])) ∧ Grew W9 w (.slice oe E.length ce) v) v w | _ => True) (fun γ L w9 => (L 11 = false ∧ Below W9.heap.size W9 w9) ∨ (L 11 = true ∧ True)) (by kernel_rfl) (by kernel_rfl) (by kernel_rfl) (by kernel_rfl) ?_ ?_ ?_
                      · exact Or.inl ⟨rfl, (Below.refl _ W9).drew⟩
                      · generalize hD : dstOf _ = D
                        generalize hWA : waitsFor _ = WA
                        generalize hZ : Act.mk _ _ = Z
                        obtain ⟨R, hR⟩ : ∃ R : Nat → Value → World → Prop, R = (fun j v w => match j with | 0 => v = .slice oe E.length ce | 1 => v = .agg #[.int .i64 (pb).x, .int .i64 (pb).y, .int .i64 (pb).z] | 2 => v = .agg #[.int .i64 (pa).x, .int .i64 (pa).y, .int .i64 (pa).z] | 3 => v = .agg #[.int .i64 (pb.sub pa).x, .int .i64 (pb.sub pa).y, .int .i64 (pb.sub pa).z] | 4 => v = .agg #[.int .i64 (pc).x, .int .i64 (pc).y, .int .i64 (pc).z] | 5 => v = .agg #[.int .i64 (pa).x, .int .i64 (pa).y, .int .i64 (pa).z] | 6 => v = .agg #[.int .i64 (pc.sub pa).x, .int .i64 (pc.sub pa).y, .int .i64 (pc.sub pa).z] | 7 => v = .agg #[.int .i64 (pc).x, .int .i64 (pc).y, .int .i64 (pc).z] | 8 => v = .agg #[.int .i64 (pb).x, .int .i64 (pb).y, .int .i64 (pb).z] | 9 => v = .agg #[.int .i64 (pc.sub pb).x, .int .i64 (pc.sub pb).y, .int .i64 (pc.sub pb).z] | 10 => (fun v w => ∃ g, v = .slice (some ⟨g, 0, none⟩) 3 3 ∧ W9.heap.size ≤ g ∧ g < w.heap.size ∧ At w g [pb.sub pa, pc.sub pa, pc.sub pb]) v w | 11 => (fun v w => w.ownsRow w0.heap.size 26 3 v (withEdgesP E [pb.sub pa, pc.sub pa, pc.sub pb]).length (fl3 (withEdgesP E [pb.sub pa, pc.sub pa, pc.sub pb])) ∧ Grew W9 w (.slice oe E.length ce) v) v w | 12 => (fun v w => w.ownsRow w0.heap.size 26 3 v (withEdgesP E [pb.sub pa, pc.sub pa, pc.sub pb]).length (fl3 (withEdgesP E [pb.sub pa, pc.sub pa, pc.sub pb])) ∧ Grew W9 w (.slice oe E.length ce) v) v w | _ => True) := ⟨_, rfl⟩
                        rw [← hR]
                        have d0 : D 0 = some 84 := by rw [← hD]; rfl
                        have d1 : D 1 = some 85 := by rw [← hD]; rfl
                        have d2 : D 2 = some 86 := by rw [← hD]; rfl
                        have d3 : D 3 = some 87 := by rw [← hD]; rfl
                        have d4 : D 4 = some 88 := by rw [← hD]; rfl
                        have d5 : D 5 = some 89 := by rw [← hD]; rfl
                        have d6 : D 6 = some 90 := by rw [← hD]; rfl
                        have d7 : D 7 = some 91 := by rw [← hD]; rfl
                        have d8 : D 8 = some 92 := by rw [← hD]; rfl
                        have d9 : D 9 = some 93 := by rw [← hD]; rfl
                        have d10 : D 10 = some 94 := by rw [← hD]; rfl
                        have d11 : D 11 = some 95 := by rw [← hD]; rfl
                        have d12 : D 12 = some 3 := by rw [← hD]; rfl
                        have r0 : ∀ v w, R 0 v w = (v = .slice oe E.length ce) := fun v w => by rw [hR]; rfl
                        have r1 : ∀ v w, R 1 v w = (v = .agg #[.int .i64 (pb).x, .int .i64 (pb).y, .int .i64 (pb).z]) := fun v w => by rw [hR]; rfl
                        have r2 : ∀ v w, R 2 v w = (v = .agg #[.int .i64 (pa).x, .int .i64 (pa).y, .int .i64 (pa).z]) := fun v w => by rw [hR]; rfl
                        have r3 : ∀ v w, R 3 v w = (v = .agg #[.int .i64 (pb.sub pa).x, .int .i64 (pb.sub pa).y, .int .i64 (pb.sub pa).z]) := fun v w => by rw [hR]; rfl
                        have r4 : ∀ v w, R 4 v w = (v = .agg #[.int .i64 (pc).x, .int .i64 (pc).y, .int .i64 (pc).z]) := fun v w => by rw [hR]; rfl
                        have r5 : ∀ v w, R 5 v w = (v = .agg #[.int .i64 (pa).x, .int .i64 (pa).y, .int .i64 (pa).z]) := fun v w => by rw [hR]; rfl
                        have r6 : ∀ v w, R 6 v w = (v = .agg #[.int .i64 (pc.sub pa).x, .int .i64 (pc.sub pa).y, .int .i64 (pc.sub pa).z]) := fun v w => by rw [hR]; rfl
                        have r7 : ∀ v w, R 7 v w = (v = .agg #[.int .i64 (pc).x, .int .i64 (pc).y, .int .i64 (pc).z]) := fun v w => by rw [hR]; rfl
                        have r8 : ∀ v w, R 8 v w = (v = .agg #[.int .i64 (pb).x, .int .i64 (pb).y, .int .i64 (pb).z]) := fun v w => by rw [hR]; rfl
                        have r9 : ∀ v w, R 9 v w = (v = .agg #[.int .i64 (pc.sub pb).x, .int .i64 (pc.sub pb).y, .int .i64 (pc.sub pb).z]) := fun v w => by rw [hR]; rfl
                        have r10 : ∀ v w, R 10 v w = ((fun v w => ∃ g, v = .slice (some ⟨g, 0, none⟩) 3 3 ∧ W9.heap.size ≤ g ∧ g < w.heap.size ∧ At w g [pb.sub pa, pc.sub pa, pc.sub pb]) v w) := fun v w => by rw [hR]; rfl
                        have r11 : ∀ v w, R 11 v w = ((fun v w => w.ownsRow w0.heap.size 26 3 v (withEdgesP E [pb.sub pa, pc.sub pa, pc.sub pb]).length (fl3 (withEdgesP E [pb.sub pa, pc.sub pa, pc.sub pb])) ∧ Grew W9 w (.slice oe E.length ce) v) v w) := fun v w => by rw [hR]; rfl
                        have r12 : ∀ v w, R 12 v w = ((fun v w => w.ownsRow w0.heap.size 26 3 v (withEdgesP E [pb.sub pa, pc.sub pa, pc.sub pb]).length (fl3 (withEdgesP E [pb.sub pa, pc.sub pa, pc.sub pb])) ∧ Grew W9 w (.slice oe E.length ce) v) v w) := fun v w => by rw [hR]; rfl
                        have X3 : ∀ j, D j = some 3 → j = 12 := fun j hj => by rw [← hD] at hj; exact dst_once (by kernel_rfl) hj rfl
                        have Y3 : Z.tmps[3]? = some (.slice oe E.length ce) := by rw [← hZ]; rfl
                        have LA_12_0 : WA 12 0 := by rw [← hWA]; exact ⟨_, rfl, ⟨0, .phase⟩, by simp, rfl, rfl⟩
                        have E5 : ∀ (γ : Nat → Value) (L : Nat → Bool) (a : Act) (w : World), RV.Held D WA R (fun γ L w9 => (L 11 = false ∧ Below W9.heap.size W9 w9) ∨ (L 11 = true ∧ True)) Z γ L a w → a.tmps[5]? = some (.pointer (some ⟨ba, 0, none⟩)) := fun γ L a w hH => (hH.rest 5 (by rw [← hD]; exact RV.dst_free (by kernel_rfl))).trans (by rw [← hZ]; rfl)
                        have E7 : ∀ (γ : Nat → Value) (L : Nat → Bool) (a : Act) (w : World), RV.Held D WA R (fun γ L w9 => (L 11 = false ∧ Below W9.heap.size W9 w9) ∨ (L 11 = true ∧ True)) Z γ L a w → a.tmps[7]? = some (.pointer (some ⟨bb, 0, none⟩)) := fun γ L a w hH => (hH.rest 7 (by rw [← hD]; exact RV.dst_free (by kernel_rfl))).trans (by rw [← hZ]; rfl)
                        have E9 : ∀ (γ : Nat → Value) (L : Nat → Bool) (a : Act) (w : World), RV.Held D WA R (fun γ L w9 => (L 11 = false ∧ Below W9.heap.size W9 w9) ∨ (L 11 = true ∧ True)) Z γ L a w → a.tmps[9]? = some (.pointer (some ⟨bc, 0, none⟩)) := fun γ L a w hH => (hH.rest 9 (by rw [← hD]; exact RV.dst_free (by kernel_rfl))).trans (by rw [← hZ]; rfl)
                        have K : ∀ j v w w', Below w.heap.size w w' → R j v w → R j v w' := by
                          rw [hR]
                          intro j v w w' hb h
                          revert h
                          dsimp only
                          split
                          all_goals first | exact id | exact (fun ⟨g, t1, t2, t3, t4⟩ => ⟨g, t1, t2, Nat.lt_of_lt_of_le t3 hb.size, t4.below hb⟩) | exact (fun ⟨t1, t2⟩ => ⟨own_below t1 hb, t2.trans (Grew.below hb _)⟩)
                        have K2 : ∀ j v w w', j ≠ 11 → j ≠ 12 → w.grownBy w' (Value.slice oe E.length ce).ownBlock → (∀ g, W9.heap.size ≤ g → (Value.slice oe E.length ce).ownBlock ≠ some g) → R j v w → R j v w' := by
                          rw [hR]
                          intro j v w w' n1 n2 hg ho h
                          revert h
                          dsimp only
                          split
                          all_goals first | exact id | exact absurd rfl n1 | exact absurd rfl n2 | exact (fun ⟨g, t1, t2, t3, t4⟩ => ⟨g, t1, t2, Nat.lt_of_lt_of_le t3 hg.size, t4.grown hg (ho g t2)⟩)
                        have A_11_0 : WA 11 0 := by rw [← hWA]; exact ⟨_, rfl, ⟨0, .data⟩, by simp, rfl, rfl⟩
                        have A_3_1 : WA 3 1 := by rw [← hWA]; exact ⟨_, rfl, ⟨1, .data⟩, by simp, rfl, rfl⟩
                        have A_3_2 : WA 3 2 := by rw [← hWA]; exact ⟨_, rfl, ⟨2, .data⟩, by simp, rfl, rfl⟩
                        have A_6_3 : WA 6 3 := by rw [← hWA]; exact ⟨_, rfl, ⟨3, .chain⟩, by simp, rfl, rfl⟩
                        have A_6_4 : WA 6 4 := by rw [← hWA]; exact ⟨_, rfl, ⟨4, .data⟩, by simp, rfl, rfl⟩
                        have A_6_5 : WA 6 5 := by rw [← hWA]; exact ⟨_, rfl, ⟨5, .data⟩, by simp, rfl, rfl⟩
                        have A_9_6 : WA 9 6 := by rw [← hWA]; exact ⟨_, rfl, ⟨6, .chain⟩, by simp, rfl, rfl⟩
                        have A_9_7 : WA 9 7 := by rw [← hWA]; exact ⟨_, rfl, ⟨7, .data⟩, by simp, rfl, rfl⟩
                        have A_9_8 : WA 9 8 := by rw [← hWA]; exact ⟨_, rfl, ⟨8, .data⟩, by simp, rfl, rfl⟩
                        have A_11_9 : WA 11 9 := by rw [← hWA]; exact ⟨_, rfl, ⟨9, .chain⟩, by simp, rfl, rfl⟩
                        have A_11_10 : WA 11 10 := by rw [← hWA]; exact ⟨_, rfl, ⟨10, .data⟩, by simp, rfl, rfl⟩
                        have A_12_11 : WA 12 11 := by rw [← hWA]; exact ⟨_, rfl, ⟨11, .data⟩, by simp, rfl, rfl⟩
                        clear hD hWA hZ hR
                        refine RV.AllDo.cons 0 (RV.does_pure (fun γ v L w hl h => by rw [RV.more_ne (L := L) (i := 0) (j := 11) (by decide)]; exact h) (fun γ L a w hH hl hA => by have e0 := (hH.early 3 (fun j hj => by rw [X3 j hj]; exact RV.not_yet hH LA_12_0 hl)).trans Y3; exact ⟨.slice oe E.length ce, by simp [execOp, go_sem, e0], (r0 _ _).mpr rfl⟩)) ?_
                        refine RV.AllDo.cons 1 (RV.does_pure (fun γ v L w hl h => by rw [RV.more_ne (L := L) (i := 1) (j := 11) (by decide)]; exact h) (fun γ L a w hH hl hA => by have e0 := E7 γ L a w hH; have hB9 := early9 hH.glob (RV.not_yet hH A_11_9 (RV.not_yet hH A_9_6 (RV.not_yet hH A_6_3 (RV.not_yet hH A_3_1 hl)))); have z0 := c_after hB9 q0; have z1 := c_after hB9 q1; have z2 := c_after hB9 q2; exact ⟨.agg #[.int .i64 (pb).x, .int .i64 (pb).y, .int .i64 (pb).z], by simp [execOp, go_sem, e0, z0, z1, z2], (r1 _ _).mpr rfl⟩)) ?_
                        refine RV.AllDo.cons 2 (RV.does_pure (fun γ v L w hl h => by rw [RV.more_ne (L := L) (i := 2) (j := 11) (by decide)]; exact h) (fun γ L a w hH hl hA => by have e0 := E5 γ L a w hH; have hB9 := early9 hH.glob (RV.not_yet hH A_11_9 (RV.not_yet hH A_9_6 (RV.not_yet hH A_6_3 (RV.not_yet hH A_3_2 hl)))); have z0 := c_after hB9 p0; have z1 := c_after hB9 p1; have z2 := c_after hB9 p2; exact ⟨.agg #[.int .i64 (pa).x, .int .i64 (pa).y, .int .i64 (pa).z], by simp [execOp, go_sem, e0, z0, z1, z2], (r2 _ _).mpr rfl⟩)) ?_
                        refine RV.AllDo.cons 3 (RV.does_call (fun γ L a w hH hl hA => by have l0 : L 1 = true := hA ⟨1, .data⟩ (by simp) rfl; have e0 := hH.slot 1 85 d1 l0; have g0 := hH.holds 1 l0; rw [r1] at g0; rw [g0] at e0; have l1 : L 2 = true := hA ⟨2, .data⟩ (by simp) rfl; have e1 := hH.slot 2 86 d2 l1; have g1 := hH.holds 2 l1; rw [r2] at g1; rw [g1] at e1; have hB9 := early9 hH.glob (RV.not_yet hH A_11_9 (RV.not_yet hH A_9_6 (RV.not_yet hH A_6_3 hl))); exact ⟨83, #[.agg #[.int .i64 (pb).x, .int .i64 (pb).y, .int .i64 (pb).z], .agg #[.int .i64 (pa).x, .int .i64 (pa).y, .int .i64 (pa).z]], by simp [go_sem, e0, e1], Calls.mono (L1.out w) (by rintro e w2 ⟨rfl, hb⟩; exact ⟨_, rfl, (r3 _ _).mpr rfl, fun j v _ h => K j v _ _ hb h, Or.inl ⟨by rw [RV.more_ne (L := L) (i := 3) (j := 11) (by decide)]; exact (RV.not_yet hH A_11_9 (RV.not_yet hH A_9_6 (RV.not_yet hH A_6_3 hl))), hB9.trans (hb.mono hB9.size)⟩⟩)⟩)) ?_
                        refine RV.AllDo.cons 4 (RV.does_pure (fun γ v L w hl h => by rw [RV.more_ne (L := L) (i := 4) (j := 11) (by decide)]; exact h) (fun γ L a w hH hl hA => by have e0 := E9 γ L a w hH; have hB9 := early9 hH.glob (RV.not_yet hH A_11_9 (RV.not_yet hH A_9_6 (RV.not_yet hH A_6_4 hl))); have z0 := c_after hB9 s0; have z1 := c_after hB9 s1; have z2 := c_after hB9 s2; exact ⟨.agg #[.int .i64 (pc).x, .int .i64 (pc).y, .int .i64 (pc).z], by simp [execOp, go_sem, e0, z0, z1, z2], (r4 _ _).mpr rfl⟩)) ?_
                        refine RV.AllDo.cons 5 (RV.does_pure (fun γ v L w hl h => by rw [RV.more_ne (L := L) (i := 5) (j := 11) (by decide)]; exact h) (fun γ L a w hH hl hA => by have e0 := E5 γ L a w hH; have hB9 := early9 hH.glob (RV.not_yet hH A_11_9 (RV.not_yet hH A_9_6 (RV.not_yet hH A_6_5 hl))); have z0 := c_after hB9 p0; have z1 := c_after hB9 p1; have z2 := c_after hB9 p2; exact ⟨.agg #[.int .i64 (pa).x, .int .i64 (pa).y, .int .i64 (pa).z], by simp [execOp, go_sem, e0, z0, z1, z2], (r5 _ _).mpr rfl⟩)) ?_
                        refine RV.AllDo.cons 6 (RV.does_call (fun γ L a w hH hl hA => by have l0 : L 4 = true := hA ⟨4, .data⟩ (by simp) rfl; have e0 := hH.slot 4 88 d4 l0; have g0 := hH.holds 4 l0; rw [r4] at g0; rw [g0] at e0; have l1 : L 5 = true := hA ⟨5, .data⟩ (by simp) rfl; have e1 := hH.slot 5 89 d5 l1; have g1 := hH.holds 5 l1; rw [r5] at g1; rw [g1] at e1; have hB9 := early9 hH.glob (RV.not_yet hH A_11_9 (RV.not_yet hH A_9_6 hl)); exact ⟨83, #[.agg #[.int .i64 (pc).x, .int .i64 (pc).y, .int .i64 (pc).z], .agg #[.int .i64 (pa).x, .int .i64 (pa).y, .int .i64 (pa).z]], by simp [go_sem, e0, e1], Calls.mono (L2.out w) (by rintro e w2 ⟨rfl, hb⟩; exact ⟨_, rfl, (r6 _ _).mpr rfl, fun j v _ h => K j v _ _ hb h, Or.inl ⟨by rw [RV.more_ne (L := L) (i := 6) (j := 11) (by decide)]; exact (RV.not_yet hH A_11_9 (RV.not_yet hH A_9_6 hl)), hB9.trans (hb.mono hB9.size)⟩⟩)⟩)) ?_
                        refine RV.AllDo.cons 7 (RV.does_pure (fun γ v L w hl h => by rw [RV.more_ne (L := L) (i := 7) (j := 11) (by decide)]; exact h) (fun γ L a w hH hl hA => by have e0 := E9 γ L a w hH; have hB9 := early9 hH.glob (RV.not_yet hH A_11_9 (RV.not_yet hH A_9_7 hl)); have z0 := c_after hB9 s0; have z1 := c_after hB9 s1; have z2 := c_after hB9 s2; exact ⟨.agg #[.int .i64 (pc).x, .int .i64 (pc).y, .int .i64 (pc).z], by simp [execOp, go_sem, e0, z0, z1, z2], (r7 _ _).mpr rfl⟩)) ?_
                        refine RV.AllDo.cons 8 (RV.does_pure (fun γ v L w hl h => by rw [RV.more_ne (L := L) (i := 8) (j := 11) (by decide)]; exact h) (fun γ L a w hH hl hA => by have e0 := E7 γ L a w hH; have hB9 := early9 hH.glob (RV.not_yet hH A_11_9 (RV.not_yet hH A_9_8 hl)); have z0 := c_after hB9 q0; have z1 := c_after hB9 q1; have z2 := c_after hB9 q2; exact ⟨.agg #[.int .i64 (pb).x, .int .i64 (pb).y, .int .i64 (pb).z], by simp [execOp, go_sem, e0, z0, z1, z2], (r8 _ _).mpr rfl⟩)) ?_
                        refine RV.AllDo.cons 9 (RV.does_call (fun γ L a w hH hl hA => by have l0 : L 7 = true := hA ⟨7, .data⟩ (by simp) rfl; have e0 := hH.slot 7 91 d7 l0; have g0 := hH.holds 7 l0; rw [r7] at g0; rw [g0] at e0; have l1 : L 8 = true := hA ⟨8, .data⟩ (by simp) rfl; have e1 := hH.slot 8 92 d8 l1; have g1 := hH.holds 8 l1; rw [r8] at g1; rw [g1] at e1; have hB9 := early9 hH.glob (RV.not_yet hH A_11_9 hl); exact ⟨83, #[.agg #[.int .i64 (pc).x, .int .i64 (pc).y, .int .i64 (pc).z], .agg #[.int .i64 (pb).x, .int .i64 (pb).y, .int .i64 (pb).z]], by simp [go_sem, e0, e1], Calls.mono (L3.out w) (by rintro e w2 ⟨rfl, hb⟩; exact ⟨_, rfl, (r9 _ _).mpr rfl, fun j v _ h => K j v _ _ hb h, Or.inl ⟨by rw [RV.more_ne (L := L) (i := 9) (j := 11) (by decide)]; exact (RV.not_yet hH A_11_9 hl), hB9.trans (hb.mono hB9.size)⟩⟩)⟩)) ?_
                        refine RV.AllDo.cons 10 (RV.does_step (fun γ L a w hH hl hA => by have l0 : L 3 = true := hA ⟨3, .data⟩ (by simp) rfl; have e0 := hH.slot 3 87 d3 l0; have g0 := hH.holds 3 l0; rw [r3] at g0; rw [g0] at e0; have l1 : L 6 = true := hA ⟨6, .data⟩ (by simp) rfl; have e1 := hH.slot 6 90 d6 l1; have g1 := hH.holds 6 l1; rw [r6] at g1; rw [g1] at e1; have l2 : L 9 = true := hA ⟨9, .data⟩ (by simp) rfl; have e2 := hH.slot 9 93 d9 l2; have g2 := hH.holds 9 l2; rw [r9] at g2; rw [g2] at e2; have hB9 := early9 hH.glob (RV.not_yet hH A_11_10 hl); exact ⟨.slice (some ⟨w.heap.size, 0, none⟩) 3 3, w.alloc (.cells #[.int .i64 (pb.sub pa).x, .int .i64 (pb.sub pa).y, .int .i64 (pb.sub pa).z, .int .i64 (pc.sub pa).x, .int .i64 (pc.sub pa).y, .int .i64 (pc.sub pa).z, .int .i64 (pc.sub pb).x, .int .i64 (pc.sub pb).y, .int .i64 (pc.sub pb).z] 26), by simp [execOp, go_sem, e0, e1, e2], (r10 _ _).mpr ⟨w.heap.size, rfl, hB9.size, by simp, at_new w (pb.sub pa) (pc.sub pa) (pc.sub pb) _⟩, fun j v _ h => K j v _ _ (n_after w _) h, Or.inl ⟨by rw [RV.more_ne (L := L) (i := 10) (j := 11) (by decide)]; exact (RV.not_yet hH A_11_10 hl), hB9.trans ((n_after w _).mono hB9.size)⟩⟩)) ?_
                        refine RV.AllDo.cons 11 (RV.does_call (fun γ L a w hH hl hA => by have l0 : L 0 = true := hA ⟨0, .data⟩ (by simp) rfl; have e0 := hH.slot 0 84 d0 l0; have g0 := hH.holds 0 l0; rw [r0] at g0; rw [g0] at e0; have l1 : L 10 = true := hA ⟨10, .data⟩ (by simp) rfl; have e1 := hH.slot 10 94 d10 l1; have g1 := hH.holds 10 l1; rw [r10] at g1; have hB9 := early9 hH.glob hl; obtain ⟨g9, t1, t2, t3, t4⟩ := g1; rw [t1] at e1; refine ⟨87, #[.slice oe E.length ce, .slice (some ⟨g9, 0, none⟩) 3 3], by simp [go_sem, e0, e1], Calls.mono (withEdges_any w0.heap.size g9 _ E [pb.sub pa, pc.sub pa, pc.sub pb] w (own_below HT.out.re hB9) t4 (fun e => by have := (HT.out.re.lt _ e).2; omega) t3 (Nat.le_trans HT.out.below.size hB9.size) (by omega) (by simp)) ?_⟩; rintro e w2 ⟨u', rfl, own2, grew2⟩; exact ⟨_, rfl, (r11 _ _).mpr ⟨own2, (Grew.below hB9 _).trans grew2⟩, fun j v hLj h => K2 j v w w2 (fun e => by subst e; rw [hl] at hLj; cases hLj) (fun e => by subst e; rw [RV.not_yet hH A_12_11 hl] at hLj; cases hLj) grew2.grown (fun g hg e => by have := (HT.out.re.lt _ e).2; omega) h, Or.inr ⟨RV.more_self, trivial⟩⟩)) ?_
                        refine RV.AllDo.cons 12 (RV.does_pure (fun γ v L w hl h => by rw [RV.more_ne (L := L) (i := 12) (j := 11) (by decide)]; exact h) (fun γ L a w hH hl hA => by have l0 : L 11 = true := hA ⟨11, .data⟩ (by simp) rfl; have e0 := hH.slot 11 95 d11 l0; have g0 := hH.holds 11 l0; rw [r11] at g0; exact ⟨γ 11, by simp [execOp, go_sem, e0], (r12 _ _).mpr g0⟩)) ?_
                        exact RV.AllDo.nil
                      · intro γ a5 w5 L9 hL hLo hH
                        have ha := RV.held_act hH hL (by kernel_rfl) (by kernel_rfl)
                        have y12 := hH.holds 12 (hL 12 (by decide))
                        dsimp only at y12
                        obtain ⟨yo, yg⟩ := y12
                        have HT : Hid _ := HT.out.edge yo yg
                        clear yo yg
                        rw [ha]
                        clear ha hH hL hLo
                        simp only [RV.putAll, Act.put, List.setIfInBounds_toArray, List.set_cons_zero, List.set_cons_succ, Nat.zero_add, Nat.reduceAdd]
                        generalize γ 12 = u12 at *
                        obtain ⟨oe', ce', rfl, _⟩ := (Lies.of_row HT.out.re).form
                        clear p0 p1 p2 q0 q1 q2 s0 s1 s2 L1 L2 L3
                        go_wp2_with (fail)
                        go_roundg (L.length - (j + 1) - (k + 1))
                        case measure => have := HG3.out; omega
                        case rel => exact ⟨k + 1, A', _, oa', oe', ca', ce', rfl, rfl, by go_num, by omega, rfl, by omega, by simp at hE'; omega, HD, HT.out.tail.tail⟩
            · have HD : Hid (outerP L (L.drop (i + 1)) (midP L pa (L.drop (j + 1)) (A, E)) = R) := by show _ = _; rw [← HD.out, List.drop_eq_nil_of_le (by omega : L.length ≤ j + 1 + k)]; rfl
              go_wp2_with (fail)
              rw [Exit.noGoto_normal]
              go_wp2_with (fail)
              go_roundg (L.length - (j + 1))
              case measure => have := HG2.out; omega
              case rel => exact ⟨j + 1, A, E, oa, oe, ca, ce, rfl, rfl, by go_num, by omega, by omega, rfl, by omega, by omega, HD, HT.out.tail⟩
        · have HD : Hid (outerP L (L.drop (i + 1)) (A, E) = R) := by show _ = _; rw [← HD.out, List.drop_eq_nil_of_le (by omega : L.length ≤ j)]; rfl
          go_wp2_with (fail)
          go_roundg (L.length - (i + 1))
          case measure => have := HG1.out; omega
          case rel => exact ⟨i + 1, A, E, oa, oe, ca, ce, rfl, rfl, by go_num, by omega, rfl, by omega, by omega, HD, HT.out.tail⟩
    · have e : R = (A, E) := by rw [← HD.out, List.drop_eq_nil_of_le (by omega : L.length ≤ i)]; rfl
      subst e
      go_wp2_with (fail)
      go_ret2
      exact ⟨_, _, rfl, HT.out⟩
end Go.Proofs.Ythcdpngkoejgpaa
