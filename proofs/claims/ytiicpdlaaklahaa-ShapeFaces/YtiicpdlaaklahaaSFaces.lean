/- In whatever order a hull's points stand, its axes are the same ones, and there are at least two: for every raw hull, turned about as numbers say. -/
import Derived.Test.YtiicpdlaaklahaaShM
import Derived.Test.YtiicpdlaaklahaaShS
import Derived.Test.YtiicpdlaaklahaaSFaceB
import Derived.Test.YtiicpdlaaklahaaOpenS
import Derived.Test.YtiicpdlaaklahaaOpenN
import Derived.Test.YtiicpdlaaklahaaRows
import Derived.ProofKit
import Derived.OpenShut
namespace Go.Proofs.Ytiicpdlaaklahaa
namespace shapeFaces
open Go.ChangeShapes Go.WideShapes Go.ChangeAt Go.RowKit Go.Shelf
set_option linter.unusedVariables false

theorem own : ownKnob Try.prog.godebug = none := by kernel_rfl
theorem laidOut : laidOutB Try.prog = true := by kernel_rfl

theorem pick_nat (c : Int) (n : Nat) (hc : -9223372036854775808 ≤ c ∧ c ≤ 9223372036854775807) (hn : 0 < n) (hn' : n ≤ 100) :
    ∃ q : Nat, q < n ∧ ∀ w : World, Calls Try.prog 18 #[.int .i64 c, .int .i64 (n : Int)] w fun e w' => e = .returned (.int .i64 (q : Int)) ∧ w' = w := by
  have h0 := pickZ_lo c (n := n) (by omega)
  have h1 := pickZ_hi c (n := n) (by omega)
  have h := fun w => pick_any c n w hc (by omega) (by omega)
  generalize pickZ c n = q at *
  obtain ⟨k, rfl⟩ : ∃ k : Nat, q = k := ⟨q.toNat, by omega⟩
  exact ⟨k, by omega, h⟩
/-- The lists that are turned about: what has been laid into the second shape, and what is left. -/
structure FS (Y W : World) (b9 : Nat) (a0 a1 a2 a3 a4 vt vr : Value) (T R : List Pt) : Prop where
  below : Below Y.heap.size Y W
  c9 : Cells W b9 [a0, a1, a2, a3, a4, vt]
  rt : W.ownsRow Y.heap.size 23 3 vt T.length (fl3 T)
  rr : W.ownsRow Y.heap.size 23 3 vr R.length (fl3 R)
  nt : vt.ownBlock ≠ some b9
  nr : vr.ownBlock ≠ some b9
  tr : ∀ k, vt.ownBlock = some k → vr.ownBlock ≠ some k
  l9 : Y.heap.size ≤ b9
theorem FS.app {Y V W : World} {b9 : Nat} {a0 a1 a2 a3 a4 vt vr u' : Value} {Ts R : List Pt} {p : Pt} (h : FS Y V b9 a0 a1 a2 a3 a4 vt vr Ts R) (hr : W.ownsRow Y.heap.size 23 3 u' (Ts.length + 1) (fl3 Ts ++ [.int .i64 p.x, .int .i64 p.y, .int .i64 p.z])) (hg : Grew V W vt u') : FS Y (W.setCell ⟨b9, 5, none⟩ u') b9 a0 a1 a2 a3 a4 u' vr (Ts ++ [p]) R := by
  have l9 : b9 < V.heap.size := World.block_lt_of_cell? _ _ (h.c9 0 _ rfl).1
  have off : u'.ownBlock ≠ some b9 := fun e => by
    rcases hg.same with s | ⟨k, s, hk⟩
    · exact h.nt (s ▸ e)
    · rw [s] at e; cases e; omega
  obtain ⟨q1, q2⟩ := hg.beside h.rr (fun k e e' => h.tr k e' e)
  refine ⟨(h.below.grown hg.grown h.below.size (fun k e => (h.rt.lt k e).1)).setCell h.l9 _, (h.c9.grown hg.grown h.nt).set 5 u' (by simp), ?_, ownsRow_setCell_other q1 h.nr _, off, h.nr, fun k e e' => q2 k e' e, h.l9⟩
  refine ownsRow_setCell_other ?_ off _
  rw [fl3_append, List.length_append]; exact hr
theorem FS.rest {Y V W X : World} {b9 : Nat} {a0 a1 a2 a3 a4 vt vr vl vn : Value} {Ts R N1 N2 : List Pt} (h : FS Y V b9 a0 a1 a2 a3 a4 vt vr Ts R) (hb : Below V.heap.size V W) (h1 : W.ownsRow V.heap.size 23 3 vl N1.length (fl3 N1)) (hg : Grew W X vl vn) (h2 : X.ownsRow V.heap.size 23 3 vn N2.length (fl3 N2)) : FS Y X b9 a0 a1 a2 a3 a4 vt vn Ts N2 := by
  have l9 : b9 < V.heap.size := World.block_lt_of_cell? _ _ (h.c9 0 _ rfl).1
  have hb2 : Below V.heap.size V X := hb.grown hg.grown hb.size (fun k e => (h1.lt k e).1)
  refine ⟨b_step h.below hb2, h.c9.step hb2, own_below h.rt hb2, own_le h2 h.below.size, h.nt, fun e => ?_, fun k e e' => ?_, h.l9⟩
  · have := (h2.lt _ e).1; omega
  · have a := (h.rt.lt k e).2; have b := (h2.lt k e').1; omega
theorem take_drop_perm (R : List Pt) (k : Nat) (hk : k < R.length) (Ts : List Pt) : List.Perm (Ts ++ R) ((Ts ++ [pt R k]) ++ (R.take k ++ R.drop (k + 1))) := by
  have e : R = R.take k ++ pt R k :: R.drop (k + 1) := by rw [← drop_pt hk, List.take_append_drop]
  rw [List.append_assoc]
  refine List.Perm.append_left Ts ?_
  have p := List.perm_middle (a := pt R k) (l₁ := R.take k) (l₂ := R.drop (k + 1))
  rw [← e] at p
  exact p
theorem mem_take_next (A : List Pt) (q : Pt) (k : Nat) (hk : k < A.length) : decide (q ∈ A.take (k + 1)) = (decide (q ∈ A.take k) || decide (pt A k = q)) := by
  rw [take_pt hk]
  by_cases h1 : q ∈ A.take k
  · simp [h1]
  · by_cases h2 : pt A k = q
    · subst h2; simp
    · have : ¬ q = pt A k := fun e => h2 e.symm
      simp [h1, h2, this]

set_option maxHeartbeats 4000000 in
set_option maxRecDepth 100000 in
theorem walk (k rr x y z : Int) (o : Option Addr) (L : List Pt) (c : Nat) (on : Option Addr) (nn cn : Nat) (w0 : World) (hL : Lies w0 (.slice o L.length c) L) (hF : ∀ p ∈ L, p.fits) (bk : -9223372036854775808 ≤ k ∧ k ≤ 9223372036854775807) (br : -9223372036854775808 ≤ rr ∧ rr ≤ 9223372036854775807) (bx : -9223372036854775808 ≤ x ∧ x ≤ 9223372036854775807) (by_ : -9223372036854775808 ≤ y ∧ y ≤ 9223372036854775807) (bz : -9223372036854775808 ≤ z ∧ z ≤ 9223372036854775807) (hN : Nums w0 on nn cn) :
    Calls Try.prog 5 #[.agg #[.int .i64 k, .int .i64 rr, .int .i64 x, .int .i64 y, .int .i64 z, .slice o L.length c], .slice on nn cn] w0 fun e w' => e = .returned (.bool true) ∧ Below w0.heap.size w0 w' := by
  have AW : Hid _ := fun W => awake5_any W
  have HR : Hid _ := fun w' (h : Lies w' (.slice o L.length c) L) => right_any 3 rr x y z (.slice o L.length c) L w' (by decide) br bx by_ bz h hF
  have HL : Hid _ := hL
  have HN : Hid _ := hN
  clear bk br bx by_ bz hF hL hN
  have B1 : Hid (Cells (w0.alloc (.cells #[.int .i64 k, .int .i64 rr, .int .i64 x, .int .i64 y, .int .i64 z, .slice o L.length c] 42)) w0.heap.size [.int .i64 k, .int .i64 rr, .int .i64 x, .int .i64 y, .int .i64 z, .slice o L.length c]) := Cells.new w0 [.int .i64 k, .int .i64 rr, .int .i64 x, .int .i64 y, .int .i64 z, .slice o L.length c] _
  have hB : Hid (Below w0.heap.size w0 (w0.alloc (.cells #[.int .i64 k, .int .i64 rr, .int .i64 x, .int .i64 y, .int .i64 z, .slice o L.length c] 42))) := n_after w0 _
  go_enter Try.func5, Try.ntmps5
  go_wp2_with (fail)
  refine Calls.mono (AW.out _) ?_
  clear AW
  rintro e V ⟨rfl, h⟩
  have B1 : Hid (Cells V w0.heap.size [.int .i64 k, .int .i64 rr, .int .i64 x, .int .i64 y, .int .i64 z, .slice o L.length c]) := Cells.step B1.out h
  have hD : Hid _ := b_step hB.out h
  clear h hB
  have c0 := (B1.out 0 _ rfl).1
  have f0 := (B1.out 0 _ rfl).2
  go_upto_region 3 with fail
  have B2 : Hid (Cells (V.setCell ⟨w0.heap.size, 0, none⟩ (.int .i64 3)) w0.heap.size [.int .i64 3, .int .i64 rr, .int .i64 x, .int .i64 y, .int .i64 z, .slice o L.length c]) := Cells.set B1.out 0 (.int .i64 3) (by simp)
  have hE : Hid (Below w0.heap.size w0 (V.setCell ⟨w0.heap.size, 0, none⟩ (.int .i64 3))) := hD.out.setCell (Nat.le_refl _) _
  generalize V.setCell ⟨w0.heap.size, 0, none⟩ (.int .i64 3) = V1 at *
  clear c0 f0 B1 hD
  have c0 := (B2.out 0 _ rfl).1
  have c1 := (B2.out 1 _ rfl).1
  have c2 := (B2.out 2 _ rfl).1
  have c3 := (B2.out 3 _ rfl).1
  have c4 := (B2.out 4 _ rfl).1
  have c5 := (B2.out 5 _ rfl).1
  go_wp2_with (fail)
  refine Calls.mono (HR.out _ (HL.out.below hE.out)) ?_
  clear HR
  rintro e V2 ⟨s, u, rfl, hRow, hGood, _⟩
  obtain ⟨ou, lu, cu, rfl⟩ := own_slice hRow.row
  have hD : Hid _ := b_step hE.out hRow.below
  have HU : Hid _ := hRow.lies
  have HRW : Hid _ := hRow.row
  obtain ⟨sk, sr, ⟨sx, sy, sz⟩, M⟩ := s
  have HCK : Hid _ := hGood.ok
  clear hRow hGood c0 c1 c2 c3 c4 c5 B2 HL hE
  unfold Sh.v at *
  dsimp only at *
  obtain rfl : lu = M.length := by obtain ⟨_, _, e, _⟩ := HU.out.form; cases e; rfl
  go_upto_region 4 with fail
  obtain ⟨V3, hN⟩ : ∃ X : World, X = V2.alloc (.cells #[.int .i64 sk, .int .i64 sr, .int .i64 sx, .int .i64 sy, .int .i64 sz, .slice ou M.length cu] 26) := ⟨_, rfl⟩
  obtain ⟨bs, hbb⟩ : ∃ b, b = V2.heap.size := ⟨_, rfl⟩
  have h : Below V2.heap.size V2 V3 := by rw [hN]; exact n_after _ _
  have BS : Hid (Cells V3 bs [.int .i64 sk, .int .i64 sr, .int .i64 sx, .int .i64 sy, .int .i64 sz, .slice ou M.length cu]) := by rw [hN, hbb]; exact Cells.new V2 [.int .i64 sk, .int .i64 sr, .int .i64 sx, .int .i64 sy, .int .i64 sz, .slice ou M.length cu] _
  rw [← hN, ← hbb]
  clear hN
  have HU : Hid _ := HU.out.below h
  have hD : Hid _ := b_step hD.out h
  clear h
  clear hbb
  have c0 := (BS.out 0 _ rfl).1
  have c1 := (BS.out 1 _ rfl).1
  have c2 := (BS.out 2 _ rfl).1
  have c3 := (BS.out 3 _ rfl).1
  have c4 := (BS.out 4 _ rfl).1
  have c5 := (BS.out 5 _ rfl).1
  by_cases hk4 : sk = 4
  · subst hk4
    have HMP : Hid _ := hull_parts HCK.out
    have HNF : Hid _ := not_flat HCK.out
    have HM4 : Hid _ := may_parts HMP.out.2.1
    have hm4 : 4 ≤ M.length := HM4.out.1
    have hm12 : M.length ≤ 12 := HM4.out.2.1
    have HC : Hid _ := fun w' (h : Lies w' (.slice ou M.length cu) M) => core_any ⟨4, sr, ⟨sx, sy, sz⟩, M⟩ (.slice ou M.length cu) w' h
    have hA2' : 2 ≤ (sidesP M).1.length := axes_two (fun e => by rw [e] at hm4; simp at hm4) HNF.out HM4.out.2.2.1
    have HAX : Hid (∀ N, List.Perm M N → List.Perm (sidesP M).1 (sidesP N).1) := fun N hp => axes_perm hp HNF.out HM4.out.2.2.1 HM4.out.2.2.2
    have HCP : Hid (∀ N, List.Perm M N → checkP ⟨4, sr, ⟨sx, sy, sz⟩, N⟩ = 0) := fun N hp => check_perm hp HCK.out
    clear HMP HNF HM4
    unfold Sh.v at HC
    dsimp only at HC
    go_wp2_with (fail)
    refine Calls.mono (HC.out _ HU.out) ?_
    clear HC
    rintro e V4 ⟨vp, va, ve, _, hcore⟩
    obtain ⟨rfl, hT⟩ := hcore HCK.out
    have eA : axesP ⟨4, sr, ⟨sx, sy, sz⟩, M⟩ = (sidesP M).1 := rfl
    rw [eA] at hT
    generalize (sidesP M).1 = A at *
    generalize edgesP ⟨4, sr, ⟨sx, sy, sz⟩, M⟩ = E at *
    generalize ptsP ⟨4, sr, ⟨sx, sy, sz⟩, M⟩ = P at *
    have h := hT.below
    have BS : Hid (Cells V4 bs [.int .i64 4, .int .i64 sr, .int .i64 sx, .int .i64 sy, .int .i64 sz, .slice ou M.length cu]) := Cells.step BS.out h
    have HU : Hid _ := HU.out.below h
    have hD : Hid _ := b_step hD.out h
    clear h c0 c1 c2 c3 c4 c5 hcore eA
    obtain ⟨op, cp, rfl, _⟩ := (Lies.of_row hT.rp).form
    obtain ⟨oa, ca, rfl, _⟩ := (Lies.of_row hT.ra).form
    obtain ⟨oe, ce, rfl, _⟩ := (Lies.of_row hT.re).form
    have LA : Hid _ := Lies.of_row hT.ra
    have hca : A.length ≤ ca := by obtain ⟨_, _, e, h, _⟩ := LA.out.form; cases e; exact h
    clear hT
    go_upto_region 7 with fail
    obtain ⟨V5, hN⟩ : ∃ X : World, X = V4.alloc (.cells #[.slice op P.length cp, .slice oa A.length ca, .slice oe E.length ce, .int .i64 sr] 31) := ⟨_, rfl⟩
    obtain ⟨bc, hbb⟩ : ∃ b, b = V4.heap.size := ⟨_, rfl⟩
    have h : Below V4.heap.size V4 V5 := by rw [hN]; exact n_after _ _
    have BC : Hid (Cells V5 bc [.slice op P.length cp, .slice oa A.length ca, .slice oe E.length ce, .int .i64 sr]) := by rw [hN, hbb]; exact Cells.new V4 [.slice op P.length cp, .slice oa A.length ca, .slice oe E.length ce, .int .i64 sr] _
    rw [← hN, ← hbb]
    clear hN
    have BS : Hid (Cells V5 bs [.int .i64 4, .int .i64 sr, .int .i64 sx, .int .i64 sy, .int .i64 sz, .slice ou M.length cu]) := Cells.step BS.out h
    have HU : Hid _ := HU.out.below h
    have hD : Hid _ := b_step hD.out h
    have LA : Hid _ := LA.out.below h
    clear h
    clear hbb
    have k1 := (BC.out 1 _ rfl).1
    have hA2 : ¬ A.length < 2 := by omega
    have c0 := (BS.out 0 _ rfl).1
    have c1 := (BS.out 1 _ rfl).1
    have c2 := (BS.out 2 _ rfl).1
    have c3 := (BS.out 3 _ rfl).1
    have c4 := (BS.out 4 _ rfl).1
    have c5 := (BS.out 5 _ rfl).1
    go_upto_region 9 with fail
    clear k1
    obtain ⟨Y, hY⟩ : ∃ X : World, X = V5 := ⟨_, rfl⟩
    rw [← hY] at BS BC HU hD LA c0 c1 c2 c3 c4 c5 ⊢
    clear hY
    go_upto_region 10 with fail
    go_upto_region 11 with fail
    obtain ⟨Y1, hY1⟩ : ∃ X : World, X = Y.alloc (.cells #[.int .i64 4, .int .i64 sr, .int .i64 sx, .int .i64 sy, .int .i64 sz, .slice none 0 0] 26) := ⟨_, rfl⟩
    obtain ⟨bt, hbt⟩ : ∃ b, b = Y.heap.size := ⟨_, rfl⟩
    have h : Below Y.heap.size Y Y1 := by rw [hY1]; exact n_after _ _
    have BT : Cells Y1 bt [.int .i64 4, .int .i64 sr, .int .i64 sx, .int .i64 sy, .int .i64 sz, .slice none 0 0] := by rw [hY1, hbt]; exact Cells.new Y [.int .i64 4, .int .i64 sr, .int .i64 sx, .int .i64 sy, .int .i64 sz, .slice none 0 0] _
    have hbl : Y.heap.size ≤ bt := by omega
    rw [← hY1, ← hbt]
    clear hY1
    have FS0 : Hid (FS Y Y1 bt (.int .i64 4) (.int .i64 sr) (.int .i64 sx) (.int .i64 sy) (.int .i64 sz) (.slice none 0 0) (.slice none 0 0) [] []) := ⟨h, BT, World.ownsRow_nil _ _ _ _, World.ownsRow_nil _ _ _ _, (fun e => by cases e), (fun e => by cases e), (fun k e => by cases e), hbl⟩
    clear h BT hbl hbt c0 c1 c2 c3 c4 c5
    obtain ⟨g, cu', eu, hcu⟩ := own_at HRW.out (by omega)
    cases eu
    clear HRW
    have c5 := (Cells.step BS.out FS0.out.below 5 _ rfl).1
    obtain ⟨i0, hii, hiz, hisz, hib⟩ := info_parts point_info
    have HI : Hid _ := And.intro hii (And.intro hiz (And.intro hisz hib))
    clear hii hiz hisz hib
    have RD : Hid _ := Lies.read (HU.out.below FS0.out.below) 0 M ⟨[], by simp⟩
    rw [Nat.zero_mul, Nat.add_zero] at RD
    go_wp2_with (at_builtin; refine wpList_append_own_at _ rfl _ _ 24 rfl Y1.heap.size 23 i0 _ 3 24 Try.underlying24 HI.out.1 HI.out.2.1 HI.out.2.2.1 HI.out.2.2.2 rfl (by decide) _ 0 [] rfl (World.ownsRow_nil _ _ _ _) ⟨g, 0, none⟩ M.length cu (fl3 M) rfl (by rw [fl3_length]) RD.out (fl3_one _) (by unfold maxLen; omega) (by omega) (Nat.le_refl _) ?_; intro u9 Y2 r8 g8 _ s8)
    have FS1 : Hid (FS Y Y2 bt (.int .i64 4) (.int .i64 sr) (.int .i64 sx) (.int .i64 sy) (.int .i64 sz) (.slice none 0 0) u9 [] M) := FS0.out.rest (N1 := []) (Below.refl _ _) (World.ownsRow_nil _ _ _ _) ⟨g8, by rcases s8 with e | e; exact Or.inl e; exact Or.inr ⟨_, e, Nat.le_refl _⟩⟩ (by rw [Nat.zero_add, List.nil_append] at r8; exact r8)
    obtain ⟨o9, c9, rfl, _⟩ := (Lies.of_row FS1.out.rr).form
    clear r8 g8 s8 RD FS0 c5
    go_loopg [10, 11] M.length (fun gm s10 s11 wr => ∃ (Ts Rs : List Pt) (vt : Value) (orr : Option Addr) (cr : Nat), s10 = .slice orr Rs.length cr ∧ s11 = .int .i64 (Ts.length : Int) ∧ gm = Rs.length ∧ Hid (List.Perm M (Ts ++ Rs)) ∧ Hid (FS Y wr bt (.int .i64 4) (.int .i64 sr) (.int .i64 sx) (.int .i64 sy) (.int .i64 sz) vt (.slice orr Rs.length cr) Ts Rs))
    case atStart => exact ⟨[], M, _, _, _, rfl, rfl, rfl, List.Perm.refl _, FS1.out⟩
    case round =>
      obtain ⟨Ts, Rs, vt, orr, cr, rfl, rfl, hgm, HPM, HFS⟩ := hrel
      have HG1 : Hid _ := hgm
      clear hgm
      have hlen : Ts.length + Rs.length = M.length := by have := HPM.out.length_eq; rw [List.length_append] at this; omega
      by_cases hR : 0 < Rs.length
      · go_upto_if 56 with fail
        go_cut [12] from 49 to 86 (fun s12 wx => ∃ kt : Nat, s12 = .int .i64 (kt : Int) ∧ kt < Rs.length ∧ wx = wr)
        case first =>
          by_cases hn0 : 0 < nn
          · obtain ⟨gn, offn, zv, e9, cz, bz9⟩ := HN.out.at_ (Ts.length % nn) (Nat.mod_lt _ hn0)
            subst e9
            have cz := c_after HFS.out.below (c_after hD.out cz)
            obtain ⟨kt, hkt, PN'⟩ := pick_nat zv Rs.length bz9 hR (by omega)
            have PN : Hid _ := PN'
            clear PN'
            have hz0 : ((nn : Int) == 0) = false := beq_eq_false_iff_ne.2 (by omega)
            have hcn := HN.out.le
            have hcl := HN.out.cl
            have hm9 : ((Ts.length : Int)).tmod (nn : Int) = ((Ts.length % nn : Nat) : Int) := by rw [Int.tmod_eq_emod_of_nonneg (by omega)]; simp
            obtain ⟨q9, hq9⟩ : ∃ q9, q9 = Ts.length % nn := ⟨_, rfl⟩
            have hq9l : q9 < nn := by rw [hq9]; exact Nat.mod_lt _ hn0
            rw [← hq9] at hm9 cz
            clear hq9
            go_wp2_with (fail)
            refine Calls.mono (PN.out _) ?_
            rintro e w9 ⟨rfl, rfl⟩
            go_wp2_with (fail)
            go_meet
            case rel => exact ⟨kt, rfl, hkt, rfl⟩
          · go_wp2_with (fail)
            go_meet
            case rel => exact ⟨0, rfl, hR, rfl⟩
        case rest =>
          obtain ⟨kt, rfl, hkt, rfl⟩ := hcut
          obtain ⟨gr, cr', er, hcr⟩ := own_at HFS.out.rr hR
          cases er
          have HLR : Hid _ := Lies.of_row HFS.out.rr
          obtain ⟨_, _, er, _, _, hcells⟩ := HLR.out.form
          cases er
          obtain ⟨g9, off9, e9, x0, x1, x2⟩ := hcells kt hkt
          cases e9
          rw [Nat.zero_add] at x0 x1 x2
          clear hcells
          have HTD : Hid _ := take_drop_perm Rs kt hkt Ts
          have HPT : Hid (pt Rs kt = pt Rs kt) := rfl
          obtain ⟨px, py, pz, ep⟩ : ∃ px py pz, pt Rs kt = ⟨px, py, pz⟩ := ⟨_, _, _, rfl⟩
          rw [ep] at x0 x1 x2 HTD
          dsimp only at x0 x1 x2
          clear HPT ep
          have hkz : (kt : Int) < (Rs.length : Int) := by omega
          have q5 := (HFS.out.c9 5 _ rfl).1
          go_upto_region 18 with fail
          refine RV.region_by (fun j v w => match j with | 0 => v = .pointer (some ⟨bt, 5, none⟩) | 1 => v = vt | 2 => v = .slice (some ⟨gr, 0, none⟩) Rs.length cr | 3 => v = .int .i64 (kt : Int) | 4 => v = .pointer (some ⟨gr, kt * 3, none⟩) | 5 => v = .agg #[.int .i64 px, .int .i64 py, .int .i64 pz] | 6 => True | 7 => True | 8 => v = .pointer (some ⟨bt, 5, none⟩) | 9 => True | _ => True) (fun γ L w => A8 6 7 9 wc Y.heap.size vt bt 5 Ts.length (fl3 Ts) [.int .i64 px, .int .i64 py, .int .i64 pz] γ L w) (by kernel_rfl) (by kernel_rfl) (by kernel_rfl) (by kernel_rfl) ?_ ?_ ?_
          · exact A8.start rfl rfl rfl (Below.refl _ wc).drew
          · generalize hD : dstOf _ = D
            generalize hWA : waitsFor _ = WA
            generalize hZ : Act.mk _ _ = Z
            obtain ⟨R, hR⟩ : ∃ R : Nat → Value → World → Prop, R = (fun j v w => match j with | 0 => v = .pointer (some ⟨bt, 5, none⟩) | 1 => v = vt | 2 => v = .slice (some ⟨gr, 0, none⟩) Rs.length cr | 3 => v = .int .i64 (kt : Int) | 4 => v = .pointer (some ⟨gr, kt * 3, none⟩) | 5 => v = .agg #[.int .i64 px, .int .i64 py, .int .i64 pz] | 6 => True | 7 => True | 8 => v = .pointer (some ⟨bt, 5, none⟩) | 9 => True | _ => True) := ⟨_, rfl⟩
            rw [← hR]
            have d0 : D 0 = some 67 := by rw [← hD]; rfl
            have d1 : D 1 = some 68 := by rw [← hD]; rfl
            have d2 : D 2 = some 69 := by rw [← hD]; rfl
            have d3 : D 3 = some 70 := by rw [← hD]; rfl
            have d4 : D 4 = some 71 := by rw [← hD]; rfl
            have d5 : D 5 = some 72 := by rw [← hD]; rfl
            have d6 : D 6 = some 73 := by rw [← hD]; rfl
            have d7 : D 7 = some 74 := by rw [← hD]; rfl
            have d8 : D 8 = some 75 := by rw [← hD]; rfl
            have r0 : ∀ v w, R 0 v w = (v = .pointer (some ⟨bt, 5, none⟩)) := fun v w => by rw [hR]; rfl
            have r1 : ∀ v w, R 1 v w = (v = vt) := fun v w => by rw [hR]; rfl
            have r2 : ∀ v w, R 2 v w = (v = .slice (some ⟨gr, 0, none⟩) Rs.length cr) := fun v w => by rw [hR]; rfl
            have r3 : ∀ v w, R 3 v w = (v = .int .i64 (kt : Int)) := fun v w => by rw [hR]; rfl
            have r4 : ∀ v w, R 4 v w = (v = .pointer (some ⟨gr, kt * 3, none⟩)) := fun v w => by rw [hR]; rfl
            have r5 : ∀ v w, R 5 v w = (v = .agg #[.int .i64 px, .int .i64 py, .int .i64 pz]) := fun v w => by rw [hR]; rfl
            have r6 : ∀ v w, R 6 v w = (True) := fun v w => by rw [hR]; rfl
            have r7 : ∀ v w, R 7 v w = (True) := fun v w => by rw [hR]; rfl
            have r8 : ∀ v w, R 8 v w = (v = .pointer (some ⟨bt, 5, none⟩)) := fun v w => by rw [hR]; rfl
            have r9 : ∀ v w, R 9 v w = (True) := fun v w => by rw [hR]; rfl
            have E9 : ∀ (γ : Nat → Value) (L : Nat → Bool) (a : Act) (w : World), RV.Held D WA R (fun γ L w => A8 6 7 9 wc Y.heap.size vt bt 5 Ts.length (fl3 Ts) [.int .i64 px, .int .i64 py, .int .i64 pz] γ L w) Z γ L a w → a.tmps[9]? = some (.pointer (some ⟨bt, 0, none⟩)) := fun γ L a w hH => (hH.rest 9 (by rw [← hD]; exact RV.dst_free (by kernel_rfl))).trans (by rw [← hZ]; rfl)
            have E10 : ∀ (γ : Nat → Value) (L : Nat → Bool) (a : Act) (w : World), RV.Held D WA R (fun γ L w => A8 6 7 9 wc Y.heap.size vt bt 5 Ts.length (fl3 Ts) [.int .i64 px, .int .i64 py, .int .i64 pz] γ L w) Z γ L a w → a.tmps[10]? = some (.slice (some ⟨gr, 0, none⟩) Rs.length cr) := fun γ L a w hH => (hH.rest 10 (by rw [← hD]; exact RV.dst_free (by kernel_rfl))).trans (by rw [← hZ]; rfl)
            have E12 : ∀ (γ : Nat → Value) (L : Nat → Bool) (a : Act) (w : World), RV.Held D WA R (fun γ L w => A8 6 7 9 wc Y.heap.size vt bt 5 Ts.length (fl3 Ts) [.int .i64 px, .int .i64 py, .int .i64 pz] γ L w) Z γ L a w → a.tmps[12]? = some (.int .i64 (kt : Int)) := fun γ L a w hH => (hH.rest 12 (by rw [← hD]; exact RV.dst_free (by kernel_rfl))).trans (by rw [← hZ]; rfl)
            have K : ∀ j v w w', R j v w → R j v w' := by rw [hR]; intro j v w w' h; exact h
            have A_7_1 : WA 7 1 := by rw [← hWA]; exact ⟨_, rfl, ⟨1, .data⟩, by simp, rfl, rfl⟩
            have A_7_6 : WA 7 6 := by rw [← hWA]; exact ⟨_, rfl, ⟨6, .data⟩, by simp, rfl, rfl⟩
            have A_6_5 : WA 6 5 := by rw [← hWA]; exact ⟨_, rfl, ⟨5, .data⟩, by simp, rfl, rfl⟩
            clear hD hWA hZ hR
            refine RV.AllDo.cons 0 (RV.does_pure (fun γ v L w hl h => A8.other h _ (by decide) (by decide) (by decide)) (fun γ L a w hH hl hA => by have e0 := E9 γ L a w hH; exact ⟨.pointer (some ⟨bt, 5, none⟩), by simp [execOp, go_sem, e0], (r0 _ _).mpr rfl⟩)) ?_
            refine RV.AllDo.cons 1 (RV.does_pure (fun γ v L w hl h => A8.other h _ (by decide) (by decide) (by decide)) (fun γ L a w hH hl hA => by have l0 : L 0 = true := hA ⟨0, .data⟩ (by simp) rfl; have e0 := hH.slot 0 67 d0 l0; have g0 := hH.holds 0 l0; rw [r0] at g0; rw [g0] at e0; have z0 := c_after (A8.early hH.glob (RV.not_yet hH A_7_1 hl)).2.1 q5; exact ⟨vt, by simp [execOp, go_sem, e0, z0], (r1 _ _).mpr rfl⟩)) ?_
            refine RV.AllDo.cons 2 (RV.does_pure (fun γ v L w hl h => A8.other h _ (by decide) (by decide) (by decide)) (fun γ L a w hH hl hA => by have e0 := E10 γ L a w hH; exact ⟨.slice (some ⟨gr, 0, none⟩) Rs.length cr, by simp [execOp, go_sem, e0], (r2 _ _).mpr rfl⟩)) ?_
            refine RV.AllDo.cons 3 (RV.does_pure (fun γ v L w hl h => A8.other h _ (by decide) (by decide) (by decide)) (fun γ L a w hH hl hA => by have e0 := E12 γ L a w hH; exact ⟨.int .i64 (kt : Int), by simp [execOp, go_sem, e0], (r3 _ _).mpr rfl⟩)) ?_
            refine RV.AllDo.cons 4 (RV.does_pure (fun γ v L w hl h => A8.other h _ (by decide) (by decide) (by decide)) (fun γ L a w hH hl hA => by have l0 : L 2 = true := hA ⟨2, .data⟩ (by simp) rfl; have e0 := hH.slot 2 69 d2 l0; have g0 := hH.holds 2 l0; rw [r2] at g0; rw [g0] at e0; have l1 : L 3 = true := hA ⟨3, .data⟩ (by simp) rfl; have e1 := hH.slot 3 70 d3 l1; have g1 := hH.holds 3 l1; rw [r3] at g1; rw [g1] at e1; exact ⟨.pointer (some ⟨gr, kt * 3, none⟩), by simp [execOp, go_sem, e0, e1, hkz], (r4 _ _).mpr rfl⟩)) ?_
            refine RV.AllDo.cons 5 (RV.does_pure (fun γ v L w hl h => A8.other h _ (by decide) (by decide) (by decide)) (fun γ L a w hH hl hA => by have l0 : L 4 = true := hA ⟨4, .data⟩ (by simp) rfl; have e0 := hH.slot 4 71 d4 l0; have g0 := hH.holds 4 l0; rw [r4] at g0; rw [g0] at e0; have hB9 := (A8.early hH.glob (RV.not_yet hH A_7_6 (RV.not_yet hH A_6_5 hl))).2.1; have z0 := c_after hB9 x0; have z1 := c_after hB9 x1; have z2 := c_after hB9 x2; exact ⟨.agg #[.int .i64 px, .int .i64 py, .int .i64 pz], by simp [execOp, go_sem, e0, z0, z1, z2], (r5 _ _).mpr rfl⟩)) ?_
            refine RV.AllDo.cons 6 (RV.does_step (fun γ L a w hH hl hA => by have l0 : L 5 = true := hA ⟨5, .data⟩ (by simp) rfl; have e0 := hH.slot 5 72 d5 l0; have g0 := hH.holds 5 l0; rw [r5] at g0; rw [g0] at e0; exact ⟨.slice (some ⟨w.heap.size, 0, none⟩) 1 1, w.alloc (.cells #[.int .i64 px, .int .i64 py, .int .i64 pz] 23), by simp [execOp, go_sem, e0], (r6 _ _).mpr trivial, fun j v _ h => K j v _ _ h, A8.lay hH.glob (RV.not_yet hH A_7_6 hl) (by decide) (by decide)⟩)) ?_
            refine RV.AllDo.cons 7 (RV.does_step (fun γ L a w hH hl hA => by have l0 : L 1 = true := hA ⟨1, .data⟩ (by simp) rfl; have e0 := hH.slot 1 68 d1 l0; have g0 := hH.holds 1 l0; rw [r1] at g0; rw [g0] at e0; have l1 : L 6 = true := hA ⟨6, .data⟩ (by simp) rfl; have e1 := hH.slot 6 73 d6 l1; have g1 := hH.holds 6 l1; rw [r6] at g1; obtain ⟨y1, y2, y3⟩ := A8.early hH.glob hl; obtain ⟨g9, t1, t2⟩ := y3 l1; rw [t1] at e1; obtain ⟨v9, w9, t3, t4, t5⟩ := exec_append (P := Try.prog) (w := w) (a := a) (.tmp 68) (.tmp 73) 24 24 Y.heap.size 23 i0 _ 3 24 Try.underlying24 HI.out.1 HI.out.2.1 HI.out.2.2.1 HI.out.2.2.2 rfl (by decide) vt Ts.length (fl3 Ts) (by simp [go_sem, e0]) (own_below HFS.out.rt y2) ⟨g9, 0, none⟩ 1 1 [.int .i64 px, .int .i64 py, .int .i64 pz] (by simp [go_sem, e1]) rfl (news_at t2) (by intro u hu; simp at hu; rcases hu with rfl | rfl | rfl <;> rfl) (by unfold maxLen; omega) (by omega) (Nat.le_trans HFS.out.below.size y2.size); exact ⟨v9, w9, t3 _ rfl rfl, (r7 _ _).mpr trivial, fun j v _ h => K j v _ _ h, A8.app y1 (by decide) t4 ((Grew.below y2 _).trans t5)⟩)) ?_
            refine RV.AllDo.cons 8 (RV.does_pure (fun γ v L w hl h => A8.other h _ (by decide) (by decide) (by decide)) (fun γ L a w hH hl hA => by have e0 := E9 γ L a w hH; exact ⟨.pointer (some ⟨bt, 5, none⟩), by simp [execOp, go_sem, e0], (r8 _ _).mpr rfl⟩)) ?_
            refine RV.AllDo.cons 9 (RV.does_store (fun γ L a w hH hl hA => by have l0 : L 7 = true := hA ⟨7, .data⟩ (by simp) rfl; have e0 := hH.slot 7 74 d7 l0; have g0 := hH.holds 7 l0; rw [r7] at g0; have l1 : L 8 = true := hA ⟨8, .data⟩ (by simp) rfl; have e1 := hH.slot 8 75 d8 l1; have g1 := hH.holds 8 l1; rw [r8] at g1; rw [g1] at e1; have y := A8.mid hH.glob (hA ⟨7, .data⟩ (by simp) rfl) hl; have z := (Cells.grown HFS.out.c9 y.2.grown HFS.out.nt) 5 _ rfl; have z0 := z.1; have z1 := z.2; obtain ⟨o9, l9, c9, e9⟩ := own_slice y.1; exact ⟨w.setCell ⟨bt, 5, none⟩ (γ 7), by simp [execOp, go_sem, e0, e1, z0, z1, e9], (r9 _ _).mpr trivial, fun j v _ h => K j v _ _ h, A8.store hH.glob (hA ⟨7, .data⟩ (by simp) rfl) hl (by decide) _⟩)) ?_
            exact RV.AllDo.nil
          · intro γ a5 w5 L9 hL hLo hH
            have ha := RV.held_act hH hL (by kernel_rfl) (by kernel_rfl)
            obtain ⟨w8b, y1, y2, y3⟩ := A8.done hH.glob (hL 9 (by decide))
            rw [ha]
            clear ha hH hL hLo
            simp only [RV.putAll, Act.put, List.setIfInBounds_toArray, List.set_cons_zero, List.set_cons_succ, Nat.zero_add, Nat.reduceAdd]
            have HX := HFS.out.app (p := ⟨px, py, pz⟩) y1 y2
            rw [← y3] at HX
            generalize γ 7 = vt2 at *
            have HX : Hid _ := HX
            clear y1 y2 y3 q5 x0 x1 x2 HFS HLR
            obtain ⟨W8, hW8⟩ : ∃ X : World, X = w5 := ⟨_, rfl⟩
            rw [← hW8] at HX ⊢
            clear hW8
            have HLR : Hid _ := Lies.of_row HX.out.rr
            have RD1 : Hid _ := Lies.read HLR.out 0 (Rs.take kt) ⟨Rs.drop kt, by simp⟩
            rw [Nat.zero_mul, Nat.add_zero] at RD1
            have hkl : kt ≤ Rs.length := by omega
            have hkc : kt ≤ cr := by omega
            go_upto_region 20 with fail
            go_upto_region 21 with (at_builtin; refine wpList_append_own_at _ rfl _ _ 24 rfl W8.heap.size 23 i0 _ 3 24 Try.underlying24 HI.out.1 HI.out.2.1 HI.out.2.2.1 HI.out.2.2.2 rfl (by decide) _ 0 [] rfl (World.ownsRow_nil _ _ _ _) ⟨gr, 0, none⟩ kt cr (fl3 (Rs.take kt)) rfl (by rw [fl3_length, List.length_take, Nat.min_eq_left hkl]) RD1.out (fl3_one _) (by unfold maxLen; omega) (by omega) (Nat.le_refl _) ?_; intro u9 W9 r8 g8 _ s8)
            rw [Nat.zero_add, List.nil_append] at r8
            have hb9 : Below W8.heap.size W8 W9 := (Below.refl _ _).grown g8 (Nat.le_refl _) (fun k e => by cases e)
            have hl9 : (Rs.take kt).length = kt := by rw [List.length_take, Nat.min_eq_left hkl]
            have hr9 : Hid (W9.ownsRow W8.heap.size 23 3 u9 (Rs.take kt).length (fl3 (Rs.take kt))) := by rw [hl9]; exact r8
            have R8 : Hid _ := r8
            have HB9 : Hid _ := hb9
            have HLR9 : Hid _ := HLR.out.below hb9
            have hs9 := hb9.size
            clear r8 g8 s8 RD1 hb9 HLR
            have hkp : (kt : Int) + 1 ≤ (Rs.length : Int) := by omega
            by_cases hroom : cr = kt + 1
            · have hlast : Rs.length = kt + 1 := by omega
              have hdr : Rs.take kt ++ Rs.drop (kt + 1) = Rs.take kt := by rw [List.drop_eq_nil_of_le (by omega), List.append_nil]
              subst hroom
              go_wp2_with (at_builtin; refine wpList_append_own_at _ rfl _ _ 24 rfl W8.heap.size 23 i0 _ 3 24 Try.underlying24 HI.out.1 HI.out.2.1 HI.out.2.2.1 HI.out.2.2.2 rfl (by decide) _ kt (fl3 (Rs.take kt)) rfl R8.out ⟨gr, 0, none⟩ 0 0 [] (by first | rfl | (simp [go_sem]; omega) | (simp [go_sem])) (by rfl) (by intro j u hj; simp at hj) (by intro u hu; cases hu) (by unfold maxLen; omega) (by omega) hs9 ?_; intro un Wa rn gn _ sn)
              have HZ := HX.out.rest HB9.out hr9.out ⟨gn, by rcases sn with e | e; exact Or.inl e; exact Or.inr ⟨_, e, Nat.le_refl _⟩⟩ (N2 := Rs.take kt) (by rw [hl9]; simpa using rn)
              obtain ⟨on9, cn9, rfl, _⟩ := (Lies.of_row HZ.rr).form
              have HZ : Hid _ := HZ
              clear rn gn sn
              go_roundg (Rs.take kt).length
              case measure => have := HG1.out; rw [hl9]; omega
              case rel => exact ⟨Ts ++ [(⟨px, py, pz⟩ : Pt)], _, vt2, _, _, rfl, by rw [List.length_append]; go_num, rfl, by rw [← hdr]; exact HPM.out.trans HTD.out, HZ.out⟩
            · have RD2 : Hid _ := Lies.read HLR9.out (kt + 1) (Rs.drop (kt + 1)) ⟨[], by simp⟩
              rw [Nat.zero_add] at RD2
              go_wp2_with (at_builtin; refine wpList_append_own_at _ rfl _ _ 24 rfl W8.heap.size 23 i0 _ 3 24 Try.underlying24 HI.out.1 HI.out.2.1 HI.out.2.2.1 HI.out.2.2.2 rfl (by decide) _ kt (fl3 (Rs.take kt)) rfl R8.out ⟨gr, (kt + 1) * 3, none⟩ (Rs.length - (kt + 1)) (cr - (kt + 1)) (fl3 (Rs.drop (kt + 1))) rfl (by rw [fl3_length, List.length_drop]) RD2.out (fl3_one _) (by unfold maxLen; omega) (by omega) hs9 ?_; intro un Wa rn gn _ sn)
              have HZ := HX.out.rest HB9.out hr9.out ⟨gn, by rcases sn with e | e; exact Or.inl e; exact Or.inr ⟨_, e, Nat.le_refl _⟩⟩ (N2 := Rs.take kt ++ Rs.drop (kt + 1)) (by rw [List.length_append, hl9, List.length_drop, fl3_append]; exact rn)
              obtain ⟨on9, cn9, rfl, _⟩ := (Lies.of_row HZ.rr).form
              have HZ : Hid _ := HZ
              clear rn gn sn
              go_roundg (Rs.take kt ++ Rs.drop (kt + 1)).length
              case measure => have := HG1.out; rw [List.length_append, hl9, List.length_drop]; omega
              case rel => exact ⟨Ts ++ [(⟨px, py, pz⟩ : Pt)], _, vt2, _, _, rfl, by rw [List.length_append]; go_num, rfl, HPM.out.trans HTD.out, HZ.out⟩
      · obtain rfl : Rs = [] := List.length_eq_zero_iff.1 (by omega)
        have HPT : Hid (List.Perm M Ts) := by have := HPM.out; rw [List.append_nil] at this; exact this
        have HA3 : Hid _ := HAX.out Ts HPT.out
        have HC0 : Hid _ := HCP.out Ts HPT.out
        obtain ⟨ot, lt, ct, rfl⟩ := own_slice HFS.out.rt
        have HC : Hid _ := fun w' (h : Lies w' (.slice ot lt ct) Ts) => core_any ⟨4, sr, ⟨sx, sy, sz⟩, Ts⟩ (.slice ot lt ct) w' h
        have LT : Hid _ := Lies.of_row HFS.out.rt
        have c0 := (HFS.out.c9 0 _ rfl).1
        have c1 := (HFS.out.c9 1 _ rfl).1
        have c2 := (HFS.out.c9 2 _ rfl).1
        have c3 := (HFS.out.c9 3 _ rfl).1
        have c4 := (HFS.out.c9 4 _ rfl).1
        have c5 := (HFS.out.c9 5 _ rfl).1
        have h := HFS.out.below
        have BC : Hid (Cells wr bc [.slice op P.length cp, .slice oa A.length ca, .slice oe E.length ce, .int .i64 sr]) := Cells.step BC.out h
        have LA : Hid _ := LA.out.below h
        have hD : Hid _ := b_step hD.out h
        clear h HFS HPM HAX HCP HCK HN HU BS
        unfold Sh.v at HC
        dsimp only at HC
        go_wp2_with (fail)
        refine Calls.mono (HC.out _ LT.out) ?_
        clear HC LT
        rintro e V6 ⟨vp2, va2, ve2, _, hcore⟩
        obtain ⟨rfl, hT⟩ := hcore HC0.out
        have eA : axesP ⟨4, sr, ⟨sx, sy, sz⟩, Ts⟩ = (sidesP Ts).1 := rfl
        rw [eA] at hT
        generalize (sidesP Ts).1 = Dx at *
        generalize edgesP ⟨4, sr, ⟨sx, sy, sz⟩, Ts⟩ = E2 at *
        generalize ptsP ⟨4, sr, ⟨sx, sy, sz⟩, Ts⟩ = P2 at *
        have h := hT.below
        have BC : Hid (Cells V6 bc [.slice op P.length cp, .slice oa A.length ca, .slice oe E.length ce, .int .i64 sr]) := Cells.step BC.out h
        have LA : Hid _ := LA.out.below h
        have hD : Hid _ := b_step hD.out h
        clear h c0 c1 c2 c3 c4 c5 hcore eA HC0
        obtain ⟨op2, cp2, rfl, _⟩ := (Lies.of_row hT.rp).form
        obtain ⟨oa2, ca2, rfl, _⟩ := (Lies.of_row hT.ra).form
        obtain ⟨oe2, ce2, rfl, _⟩ := (Lies.of_row hT.re).form
        have LD : Hid _ := Lies.of_row hT.ra
        clear hT
        go_upto_region 23 with fail
        obtain ⟨V7, hN⟩ : ∃ X : World, X = V6.alloc (.cells #[.slice op2 P2.length cp2, .slice oa2 Dx.length ca2, .slice oe2 E2.length ce2, .int .i64 sr] 31) := ⟨_, rfl⟩
        obtain ⟨bd, hbb⟩ : ∃ b, b = V6.heap.size := ⟨_, rfl⟩
        have h : Below V6.heap.size V6 V7 := by rw [hN]; exact n_after _ _
        have BD : Hid (Cells V7 bd [.slice op2 P2.length cp2, .slice oa2 Dx.length ca2, .slice oe2 E2.length ce2, .int .i64 sr]) := by rw [hN, hbb]; exact Cells.new V6 [.slice op2 P2.length cp2, .slice oa2 Dx.length ca2, .slice oe2 E2.length ce2, .int .i64 sr] _
        rw [← hN, ← hbb]
        clear hN
        have LD : Hid _ := LD.out.below h
        have BC : Hid (Cells V7 bc [.slice op P.length cp, .slice oa A.length ca, .slice oe E.length ce, .int .i64 sr]) := Cells.step BC.out h
        have LA : Hid _ := LA.out.below h
        have hD : Hid _ := b_step hD.out h
        clear h hbb
        have k1 := (BC.out 1 _ rfl).1
        have dd1 := (BD.out 1 _ rfl).1
        have hDA : Hid (Dx.length = A.length) := HA3.out.length_eq.symm
        have hde : ((Dx.length : Int) == (A.length : Int)) = true := beq_iff_eq.2 (by rw [hDA.out])
        have HIN : Hid (∀ q ∈ A, q ∈ Dx) := fun q hq => HA3.out.mem_iff.1 hq
        clear HA3 HPT
        go_upto_region 25 with fail
        clear k1 dd1 hde
        generalize hne1 : ((Dx.length : Int) != (A.length : Int)) = ne1
        clear hne1
        go_wp2_with (fail)
        go_loopg [16] A.length (fun gm s wr => ∃ i : Nat, s = .int .i64 (i : Int) ∧ i ≤ A.length ∧ gm = A.length - i ∧ Hid (Below V7.heap.size V7 wr))
        case atStart => exact ⟨0, rfl, Nat.zero_le _, rfl, Below.refl _ _⟩
        case round =>
          obtain ⟨ii, rfl, hi, hgm, HB⟩ := hrel
          have HG2 : Hid _ := hgm
          clear hgm
          have k1 := (Cells.step BC.out HB.out 1 _ rfl).1
          by_cases hit : ii < A.length
          · go_wp2_with (fail)
            go_loopg [17, 18] Dx.length (fun gm s17 s18 wr => ∃ kk : Nat, s17 = .bool (decide (pt A ii ∈ Dx.take kk)) ∧ s18 = .int .i64 (kk : Int) ∧ kk ≤ Dx.length ∧ gm = Dx.length - kk ∧ Hid (Below V7.heap.size V7 wr))
            case atStart => exact ⟨0, by simp, rfl, Nat.zero_le _, rfl, HB⟩
            case round =>
              obtain ⟨kk, rfl, rfl, hk, hgm, HB3⟩ := hrel
              have HG3 : Hid _ := hgm
              clear hgm k1
              have k1 := (Cells.step BC.out HB3.out 1 _ rfl).1
              have dd1 := (Cells.step BD.out HB3.out 1 _ rfl).1
              by_cases hkt : kk < Dx.length
              · have HNX : Hid _ := mem_take_next Dx (pt A ii) kk hkt
                generalize decide (pt A ii ∈ Dx.take kk) = fd at *
                obtain ⟨_, _, e9, _, _, hc9⟩ := LA.out.form
                cases e9
                obtain ⟨ga, offa, e9, x0, x1, x2⟩ := hc9 ii hit
                subst e9
                obtain ⟨_, _, e9, _, _, hd9⟩ := LD.out.form
                cases e9
                obtain ⟨gd, offd, e9, y0, y1, y2⟩ := hd9 kk hkt
                subst e9
                clear hc9 hd9
                have x0 := c_after HB3.out x0
                have x1 := c_after HB3.out x1
                have x2 := c_after HB3.out x2
                have y0 := c_after HB3.out y0
                have y1 := c_after HB3.out y1
                have y2 := c_after HB3.out y2
                obtain ⟨ax, ay, az, ea⟩ : ∃ ax ay az, pt A ii = ⟨ax, ay, az⟩ := ⟨_, _, _, rfl⟩
                obtain ⟨dx, dy, dz, ed⟩ : ∃ dx dy dz, pt Dx kk = ⟨dx, dy, dz⟩ := ⟨_, _, _, rfl⟩
                rw [ea] at x0 x1 x2
                rw [ed] at y0 y1 y2
                rw [ea, ed] at HNX
                have EA : Hid _ := ea
                clear ea ed
                dsimp only at x0 x1 x2 y0 y1 y2
                have hiz : (ii : Int) < (A.length : Int) := by omega
                have hkz : (kk : Int) < (Dx.length : Int) := by omega
                cases fd with
                | true =>
                  go_upto_region 32 with fail
                  refine RV.region_by (fun j v w => match j with | 0 => v = .bool (true) | 1 => v = .bool (true) | 2 => v = undef | 3 => v = undef | 4 => v = undef | 5 => v = undef | 6 => v = undef | 7 => v = undef | 8 => v = undef | 9 => v = undef | 10 => v = undef | 11 => v = undef | 12 => v = undef | 13 => v = .bool (true) | 14 => v = .bool (true) | _ => True) (fun γ L w9 => Below wr.heap.size wr w9) (by kernel_rfl) (by kernel_rfl) (by kernel_rfl) (by kernel_rfl) ?_ ?_ ?_
                  · exact (Below.refl _ wr).drew
                  · generalize hD : dstOf _ = D
                    generalize hWA : waitsFor _ = WA
                    generalize hZ : Act.mk _ _ = Z
                    obtain ⟨R, hR⟩ : ∃ R : Nat → Value → World → Prop, R = (fun j v w => match j with | 0 => v = .bool (true) | 1 => v = .bool (true) | 2 => v = undef | 3 => v = undef | 4 => v = undef | 5 => v = undef | 6 => v = undef | 7 => v = undef | 8 => v = undef | 9 => v = undef | 10 => v = undef | 11 => v = undef | 12 => v = undef | 13 => v = .bool (true) | 14 => v = .bool (true) | _ => True) := ⟨_, rfl⟩
                    rw [← hR]
                    have d0 : D 0 = some 117 := by rw [← hD]; rfl
                    have d1 : D 1 = some 118 := by rw [← hD]; rfl
                    have d2 : D 2 = some 119 := by rw [← hD]; rfl
                    have d3 : D 3 = some 120 := by rw [← hD]; rfl
                    have d4 : D 4 = some 121 := by rw [← hD]; rfl
                    have d5 : D 5 = some 122 := by rw [← hD]; rfl
                    have d6 : D 6 = some 123 := by rw [← hD]; rfl
                    have d7 : D 7 = some 124 := by rw [← hD]; rfl
                    have d8 : D 8 = some 125 := by rw [← hD]; rfl
                    have d9 : D 9 = some 126 := by rw [← hD]; rfl
                    have d10 : D 10 = some 127 := by rw [← hD]; rfl
                    have d11 : D 11 = some 128 := by rw [← hD]; rfl
                    have d12 : D 12 = some 129 := by rw [← hD]; rfl
                    have d13 : D 13 = some 130 := by rw [← hD]; rfl
                    have d14 : D 14 = some 17 := by rw [← hD]; rfl
                    have r0 : ∀ v w, R 0 v w = (v = .bool (true)) := fun v w => by rw [hR]; rfl
                    have r1 : ∀ v w, R 1 v w = (v = .bool (true)) := fun v w => by rw [hR]; rfl
                    have r2 : ∀ v w, R 2 v w = (v = undef) := fun v w => by rw [hR]; rfl
                    have r3 : ∀ v w, R 3 v w = (v = undef) := fun v w => by rw [hR]; rfl
                    have r4 : ∀ v w, R 4 v w = (v = undef) := fun v w => by rw [hR]; rfl
                    have r5 : ∀ v w, R 5 v w = (v = undef) := fun v w => by rw [hR]; rfl
                    have r6 : ∀ v w, R 6 v w = (v = undef) := fun v w => by rw [hR]; rfl
                    have r7 : ∀ v w, R 7 v w = (v = undef) := fun v w => by rw [hR]; rfl
                    have r8 : ∀ v w, R 8 v w = (v = undef) := fun v w => by rw [hR]; rfl
                    have r9 : ∀ v w, R 9 v w = (v = undef) := fun v w => by rw [hR]; rfl
                    have r10 : ∀ v w, R 10 v w = (v = undef) := fun v w => by rw [hR]; rfl
                    have r11 : ∀ v w, R 11 v w = (v = undef) := fun v w => by rw [hR]; rfl
                    have r12 : ∀ v w, R 12 v w = (v = undef) := fun v w => by rw [hR]; rfl
                    have r13 : ∀ v w, R 13 v w = (v = .bool (true)) := fun v w => by rw [hR]; rfl
                    have r14 : ∀ v w, R 14 v w = (v = .bool (true)) := fun v w => by rw [hR]; rfl
                    have X17 : ∀ j, D j = some 17 → j = 14 := fun j hj => by rw [← hD] at hj; exact dst_once (by kernel_rfl) hj rfl
                    have Y17 : Z.tmps[17]? = some (.bool (true)) := by rw [← hZ]; rfl
                    have LA_14_0 : WA 14 0 := by rw [← hWA]; exact ⟨_, rfl, ⟨0, .phase⟩, by simp, rfl, rfl⟩
                    have E7 : ∀ (γ : Nat → Value) (L : Nat → Bool) (a : Act) (w : World), RV.Held D WA R (fun γ L w9 => Below wr.heap.size wr w9) Z γ L a w → a.tmps[7]? = some (.pointer (some ⟨bc, 0, none⟩)) := fun γ L a w hH => (hH.rest 7 (by rw [← hD]; exact RV.dst_free (by kernel_rfl))).trans (by rw [← hZ]; rfl)
                    have E14 : ∀ (γ : Nat → Value) (L : Nat → Bool) (a : Act) (w : World), RV.Held D WA R (fun γ L w9 => Below wr.heap.size wr w9) Z γ L a w → a.tmps[14]? = some (.pointer (some ⟨bd, 0, none⟩)) := fun γ L a w hH => (hH.rest 14 (by rw [← hD]; exact RV.dst_free (by kernel_rfl))).trans (by rw [← hZ]; rfl)
                    have E16 : ∀ (γ : Nat → Value) (L : Nat → Bool) (a : Act) (w : World), RV.Held D WA R (fun γ L w9 => Below wr.heap.size wr w9) Z γ L a w → a.tmps[16]? = some (.int .i64 ((ii : Int))) := fun γ L a w hH => (hH.rest 16 (by rw [← hD]; exact RV.dst_free (by kernel_rfl))).trans (by rw [← hZ]; rfl)
                    have E18 : ∀ (γ : Nat → Value) (L : Nat → Bool) (a : Act) (w : World), RV.Held D WA R (fun γ L w9 => Below wr.heap.size wr w9) Z γ L a w → a.tmps[18]? = some (.int .i64 ((kk : Int))) := fun γ L a w hH => (hH.rest 18 (by rw [← hD]; exact RV.dst_free (by kernel_rfl))).trans (by rw [← hZ]; rfl)
                    have K : ∀ j v w w', R j v w → R j v w' := by rw [hR]; intro j v w w' h; exact h
                    clear hD hWA hZ hR
                    refine RV.AllDo.cons 0 (RV.does_pure (fun γ v L w hl h => h) (fun γ L a w hH hl hA => by have e0 := (hH.early 17 (fun j hj => by rw [X17 j hj]; exact RV.not_yet hH LA_14_0 hl)).trans Y17; exact ⟨.bool (true), by simp [execOp, go_sem, e0], (r0 _ _).mpr rfl⟩)) ?_
                    refine RV.AllDo.cons 1 (RV.does_pure (fun γ v L w hl h => h) (fun γ L a w hH hl hA => by have l0 : L 0 = true := hA ⟨0, .data⟩ (by simp) rfl; have e0 := hH.slot 0 117 d0 l0; have g0 := hH.holds 0 l0; rw [r0] at g0; rw [g0] at e0; exact ⟨.bool (true), by simp [execOp, go_sem, e0], (r1 _ _).mpr rfl⟩)) ?_
                    refine RV.AllDo.cons 2 (RV.does_skip rfl d1 (fun v w h => by rw [r1] at h; exact h) (by simp) (fun w => (r2 _ _).mpr rfl) (fun γ v L w hl h => h)) ?_
                    refine RV.AllDo.cons 3 (RV.does_skip rfl d1 (fun v w h => by rw [r1] at h; exact h) (by simp) (fun w => (r3 _ _).mpr rfl) (fun γ v L w hl h => h)) ?_
                    refine RV.AllDo.cons 4 (RV.does_skip rfl d1 (fun v w h => by rw [r1] at h; exact h) (by simp) (fun w => (r4 _ _).mpr rfl) (fun γ v L w hl h => h)) ?_
                    refine RV.AllDo.cons 5 (RV.does_skip rfl d1 (fun v w h => by rw [r1] at h; exact h) (by simp) (fun w => (r5 _ _).mpr rfl) (fun γ v L w hl h => h)) ?_
                    refine RV.AllDo.cons 6 (RV.does_skip rfl d1 (fun v w h => by rw [r1] at h; exact h) (by simp) (fun w => (r6 _ _).mpr rfl) (fun γ v L w hl h => h)) ?_
                    refine RV.AllDo.cons 7 (RV.does_skip rfl d1 (fun v w h => by rw [r1] at h; exact h) (by simp) (fun w => (r7 _ _).mpr rfl) (fun γ v L w hl h => h)) ?_
                    refine RV.AllDo.cons 8 (RV.does_skip rfl d1 (fun v w h => by rw [r1] at h; exact h) (by simp) (fun w => (r8 _ _).mpr rfl) (fun γ v L w hl h => h)) ?_
                    refine RV.AllDo.cons 9 (RV.does_skip rfl d1 (fun v w h => by rw [r1] at h; exact h) (by simp) (fun w => (r9 _ _).mpr rfl) (fun γ v L w hl h => h)) ?_
                    refine RV.AllDo.cons 10 (RV.does_skip rfl d1 (fun v w h => by rw [r1] at h; exact h) (by simp) (fun w => (r10 _ _).mpr rfl) (fun γ v L w hl h => h)) ?_
                    refine RV.AllDo.cons 11 (RV.does_skip rfl d1 (fun v w h => by rw [r1] at h; exact h) (by simp) (fun w => (r11 _ _).mpr rfl) (fun γ v L w hl h => h)) ?_
                    refine RV.AllDo.cons 12 (RV.does_skip rfl d1 (fun v w h => by rw [r1] at h; exact h) (by simp) (fun w => (r12 _ _).mpr rfl) (fun γ v L w hl h => h)) ?_
                    refine RV.AllDo.cons 13 (RV.does_pure (fun γ v L w hl h => h) (fun γ L a w hH hl hA => by have l0 : L 1 = true := hA ⟨1, .data⟩ (by simp) rfl; have e0 := hH.slot 1 118 d1 l0; have g0 := hH.holds 1 l0; rw [r1] at g0; rw [g0] at e0; have l1 : L 12 = true := hA ⟨12, .data⟩ (by simp) rfl; have e1 := hH.slot 12 129 d12 l1; have g1 := hH.holds 12 l1; rw [r12] at g1; rw [g1] at e1; exact ⟨.bool (true), by simp [execOp, go_sem, e0, e1], (r13 _ _).mpr rfl⟩)) ?_
                    refine RV.AllDo.cons 14 (RV.does_pure (fun γ v L w hl h => h) (fun γ L a w hH hl hA => by have l0 : L 13 = true := hA ⟨13, .data⟩ (by simp) rfl; have e0 := hH.slot 13 130 d13 l0; have g0 := hH.holds 13 l0; rw [r13] at g0; rw [g0] at e0; exact ⟨.bool (true), by simp [execOp, go_sem, e0], (r14 _ _).mpr rfl⟩)) ?_
                    exact RV.AllDo.nil
                  · intro γ a5 w5 L9 hL hLo hH
                    have ha := RV.held_act hH hL (by kernel_rfl) (by kernel_rfl)
                    have hb8 := hH.glob
                    have y0 : γ 0 = .bool (true) := hH.holds 0 (hL 0 (by decide))
                    have y1 : γ 1 = .bool (true) := hH.holds 1 (hL 1 (by decide))
                    have y2 : γ 2 = undef := hH.holds 2 (hL 2 (by decide))
                    have y3 : γ 3 = undef := hH.holds 3 (hL 3 (by decide))
                    have y4 : γ 4 = undef := hH.holds 4 (hL 4 (by decide))
                    have y5 : γ 5 = undef := hH.holds 5 (hL 5 (by decide))
                    have y6 : γ 6 = undef := hH.holds 6 (hL 6 (by decide))
                    have y7 : γ 7 = undef := hH.holds 7 (hL 7 (by decide))
                    have y8 : γ 8 = undef := hH.holds 8 (hL 8 (by decide))
                    have y9 : γ 9 = undef := hH.holds 9 (hL 9 (by decide))
                    have y10 : γ 10 = undef := hH.holds 10 (hL 10 (by decide))
                    have y11 : γ 11 = undef := hH.holds 11 (hL 11 (by decide))
                    have y12 : γ 12 = undef := hH.holds 12 (hL 12 (by decide))
                    have y13 : γ 13 = .bool (true) := hH.holds 13 (hL 13 (by decide))
                    have y14 : γ 14 = .bool (true) := hH.holds 14 (hL 14 (by decide))
                    rw [ha]
                    clear ha hH hL hLo
                    simp only [RV.putAll, Act.put, List.setIfInBounds_toArray, List.set_cons_zero, List.set_cons_succ, Nat.zero_add, Nat.reduceAdd, y0, y1, y2, y3, y4, y5, y6, y7, y8, y9, y10, y11, y12, y13, y14]
                    clear y0 y1 y2 y3 y4 y5 y6 y7 y8 y9 y10 y11 y12 y13 y14
                    have HB4 : Hid _ := b_step HB3.out hb8
                    clear hb8 x0 x1 x2 y0 y1 y2 k1 dd1
                    go_wp2_with (fail)
                    go_roundg (Dx.length - (kk + 1))
                    case measure => have := HG3.out; omega
                    case rel => exact ⟨kk + 1, by rw [EA.out, HNX.out]; simp, by go_num, by omega, rfl, HB4⟩
                | false =>
                  by_cases hq : (⟨dx, dy, dz⟩ : Pt) = ⟨ax, ay, az⟩
                  · simp only [Pt.mk.injEq] at hq
                    obtain ⟨w1, w2, w3⟩ := hq
                    rw [w1] at y0 HNX
                    rw [w2] at y1 HNX
                    rw [w3] at y2 HNX
                    clear w1 w2 w3
                    go_upto_region 32 with fail
                    refine RV.region_by (fun j v w => match j with | 0 => v = .bool (false) | 1 => v = .bool (false) | 2 => v = .pointer (some ⟨bd, 1, none⟩) | 3 => v = .slice (some ⟨gd, offd, none⟩) Dx.length ca2 | 4 => v = .int .i64 ((kk : Int)) | 5 => v = .pointer (some ⟨gd, offd + kk * 3, none⟩) | 6 => v = .agg #[.int .i64 (ax), .int .i64 (ay), .int .i64 (az)] | 7 => v = .pointer (some ⟨bc, 1, none⟩) | 8 => v = .slice (some ⟨ga, offa, none⟩) A.length ca | 9 => v = .int .i64 ((ii : Int)) | 10 => v = .pointer (some ⟨ga, offa + ii * 3, none⟩) | 11 => v = .agg #[.int .i64 (ax), .int .i64 (ay), .int .i64 (az)] | 12 => v = .bool (true) | 13 => v = .bool (true) | 14 => v = .bool (true) | _ => True) (fun γ L w9 => Below wr.heap.size wr w9) (by kernel_rfl) (by kernel_rfl) (by kernel_rfl) (by kernel_rfl) ?_ ?_ ?_
                    · exact (Below.refl _ wr).drew
                    · generalize hD : dstOf _ = D
                      generalize hWA : waitsFor _ = WA
                      generalize hZ : Act.mk _ _ = Z
                      obtain ⟨R, hR⟩ : ∃ R : Nat → Value → World → Prop, R = (fun j v w => match j with | 0 => v = .bool (false) | 1 => v = .bool (false) | 2 => v = .pointer (some ⟨bd, 1, none⟩) | 3 => v = .slice (some ⟨gd, offd, none⟩) Dx.length ca2 | 4 => v = .int .i64 ((kk : Int)) | 5 => v = .pointer (some ⟨gd, offd + kk * 3, none⟩) | 6 => v = .agg #[.int .i64 (ax), .int .i64 (ay), .int .i64 (az)] | 7 => v = .pointer (some ⟨bc, 1, none⟩) | 8 => v = .slice (some ⟨ga, offa, none⟩) A.length ca | 9 => v = .int .i64 ((ii : Int)) | 10 => v = .pointer (some ⟨ga, offa + ii * 3, none⟩) | 11 => v = .agg #[.int .i64 (ax), .int .i64 (ay), .int .i64 (az)] | 12 => v = .bool (true) | 13 => v = .bool (true) | 14 => v = .bool (true) | _ => True) := ⟨_, rfl⟩
                      rw [← hR]
                      have d0 : D 0 = some 117 := by rw [← hD]; rfl
                      have d1 : D 1 = some 118 := by rw [← hD]; rfl
                      have d2 : D 2 = some 119 := by rw [← hD]; rfl
                      have d3 : D 3 = some 120 := by rw [← hD]; rfl
                      have d4 : D 4 = some 121 := by rw [← hD]; rfl
                      have d5 : D 5 = some 122 := by rw [← hD]; rfl
                      have d6 : D 6 = some 123 := by rw [← hD]; rfl
                      have d7 : D 7 = some 124 := by rw [← hD]; rfl
                      have d8 : D 8 = some 125 := by rw [← hD]; rfl
                      have d9 : D 9 = some 126 := by rw [← hD]; rfl
                      have d10 : D 10 = some 127 := by rw [← hD]; rfl
                      have d11 : D 11 = some 128 := by rw [← hD]; rfl
                      have d12 : D 12 = some 129 := by rw [← hD]; rfl
                      have d13 : D 13 = some 130 := by rw [← hD]; rfl
                      have d14 : D 14 = some 17 := by rw [← hD]; rfl
                      have r0 : ∀ v w, R 0 v w = (v = .bool (false)) := fun v w => by rw [hR]; rfl
                      have r1 : ∀ v w, R 1 v w = (v = .bool (false)) := fun v w => by rw [hR]; rfl
                      have r2 : ∀ v w, R 2 v w = (v = .pointer (some ⟨bd, 1, none⟩)) := fun v w => by rw [hR]; rfl
                      have r3 : ∀ v w, R 3 v w = (v = .slice (some ⟨gd, offd, none⟩) Dx.length ca2) := fun v w => by rw [hR]; rfl
                      have r4 : ∀ v w, R 4 v w = (v = .int .i64 ((kk : Int))) := fun v w => by rw [hR]; rfl
                      have r5 : ∀ v w, R 5 v w = (v = .pointer (some ⟨gd, offd + kk * 3, none⟩)) := fun v w => by rw [hR]; rfl
                      have r6 : ∀ v w, R 6 v w = (v = .agg #[.int .i64 (ax), .int .i64 (ay), .int .i64 (az)]) := fun v w => by rw [hR]; rfl
                      have r7 : ∀ v w, R 7 v w = (v = .pointer (some ⟨bc, 1, none⟩)) := fun v w => by rw [hR]; rfl
                      have r8 : ∀ v w, R 8 v w = (v = .slice (some ⟨ga, offa, none⟩) A.length ca) := fun v w => by rw [hR]; rfl
                      have r9 : ∀ v w, R 9 v w = (v = .int .i64 ((ii : Int))) := fun v w => by rw [hR]; rfl
                      have r10 : ∀ v w, R 10 v w = (v = .pointer (some ⟨ga, offa + ii * 3, none⟩)) := fun v w => by rw [hR]; rfl
                      have r11 : ∀ v w, R 11 v w = (v = .agg #[.int .i64 (ax), .int .i64 (ay), .int .i64 (az)]) := fun v w => by rw [hR]; rfl
                      have r12 : ∀ v w, R 12 v w = (v = .bool (true)) := fun v w => by rw [hR]; rfl
                      have r13 : ∀ v w, R 13 v w = (v = .bool (true)) := fun v w => by rw [hR]; rfl
                      have r14 : ∀ v w, R 14 v w = (v = .bool (true)) := fun v w => by rw [hR]; rfl
                      have X17 : ∀ j, D j = some 17 → j = 14 := fun j hj => by rw [← hD] at hj; exact dst_once (by kernel_rfl) hj rfl
                      have Y17 : Z.tmps[17]? = some (.bool (false)) := by rw [← hZ]; rfl
                      have LA_14_0 : WA 14 0 := by rw [← hWA]; exact ⟨_, rfl, ⟨0, .phase⟩, by simp, rfl, rfl⟩
                      have E7 : ∀ (γ : Nat → Value) (L : Nat → Bool) (a : Act) (w : World), RV.Held D WA R (fun γ L w9 => Below wr.heap.size wr w9) Z γ L a w → a.tmps[7]? = some (.pointer (some ⟨bc, 0, none⟩)) := fun γ L a w hH => (hH.rest 7 (by rw [← hD]; exact RV.dst_free (by kernel_rfl))).trans (by rw [← hZ]; rfl)
                      have E14 : ∀ (γ : Nat → Value) (L : Nat → Bool) (a : Act) (w : World), RV.Held D WA R (fun γ L w9 => Below wr.heap.size wr w9) Z γ L a w → a.tmps[14]? = some (.pointer (some ⟨bd, 0, none⟩)) := fun γ L a w hH => (hH.rest 14 (by rw [← hD]; exact RV.dst_free (by kernel_rfl))).trans (by rw [← hZ]; rfl)
                      have E16 : ∀ (γ : Nat → Value) (L : Nat → Bool) (a : Act) (w : World), RV.Held D WA R (fun γ L w9 => Below wr.heap.size wr w9) Z γ L a w → a.tmps[16]? = some (.int .i64 ((ii : Int))) := fun γ L a w hH => (hH.rest 16 (by rw [← hD]; exact RV.dst_free (by kernel_rfl))).trans (by rw [← hZ]; rfl)
                      have E18 : ∀ (γ : Nat → Value) (L : Nat → Bool) (a : Act) (w : World), RV.Held D WA R (fun γ L w9 => Below wr.heap.size wr w9) Z γ L a w → a.tmps[18]? = some (.int .i64 ((kk : Int))) := fun γ L a w hH => (hH.rest 18 (by rw [← hD]; exact RV.dst_free (by kernel_rfl))).trans (by rw [← hZ]; rfl)
                      have K : ∀ j v w w', R j v w → R j v w' := by rw [hR]; intro j v w w' h; exact h
                      clear hD hWA hZ hR
                      refine RV.AllDo.cons 0 (RV.does_pure (fun γ v L w hl h => h) (fun γ L a w hH hl hA => by have e0 := (hH.early 17 (fun j hj => by rw [X17 j hj]; exact RV.not_yet hH LA_14_0 hl)).trans Y17; exact ⟨.bool (false), by simp [execOp, go_sem, e0], (r0 _ _).mpr rfl⟩)) ?_
                      refine RV.AllDo.cons 1 (RV.does_pure (fun γ v L w hl h => h) (fun γ L a w hH hl hA => by have l0 : L 0 = true := hA ⟨0, .data⟩ (by simp) rfl; have e0 := hH.slot 0 117 d0 l0; have g0 := hH.holds 0 l0; rw [r0] at g0; rw [g0] at e0; exact ⟨.bool (false), by simp [execOp, go_sem, e0], (r1 _ _).mpr rfl⟩)) ?_
                      refine RV.AllDo.cons 2 (RV.does_guarded rfl d1 (fun v w h => by rw [r1] at h; exact h) (by simp) (RV.does_pure (fun γ v L w hl h => h) (fun γ L a w hH hl hA => by have e0 := E14 γ L a w hH; exact ⟨.pointer (some ⟨bd, 1, none⟩), by simp [execOp, go_sem, e0], (r2 _ _).mpr rfl⟩))) ?_
                      refine RV.AllDo.cons 3 (RV.does_guarded rfl d1 (fun v w h => by rw [r1] at h; exact h) (by simp) (RV.does_pure (fun γ v L w hl h => h) (fun γ L a w hH hl hA => by have l0 : L 2 = true := hA ⟨2, .data⟩ (by simp) rfl; have e0 := hH.slot 2 119 d2 l0; have g0 := hH.holds 2 l0; rw [r2] at g0; rw [g0] at e0; have hB9 := hH.glob; have z0 := c_after hB9 dd1; exact ⟨.slice (some ⟨gd, offd, none⟩) Dx.length ca2, by simp [execOp, go_sem, e0, z0], (r3 _ _).mpr rfl⟩))) ?_
                      refine RV.AllDo.cons 4 (RV.does_guarded rfl d1 (fun v w h => by rw [r1] at h; exact h) (by simp) (RV.does_pure (fun γ v L w hl h => h) (fun γ L a w hH hl hA => by have e0 := E18 γ L a w hH; exact ⟨.int .i64 ((kk : Int)), by simp [execOp, go_sem, e0], (r4 _ _).mpr rfl⟩))) ?_
                      refine RV.AllDo.cons 5 (RV.does_guarded rfl d1 (fun v w h => by rw [r1] at h; exact h) (by simp) (RV.does_pure (fun γ v L w hl h => h) (fun γ L a w hH hl hA => by have l0 : L 3 = true := hA ⟨3, .data⟩ (by simp) rfl; have e0 := hH.slot 3 120 d3 l0; have g0 := hH.holds 3 l0; rw [r3] at g0; rw [g0] at e0; have l1 : L 4 = true := hA ⟨4, .data⟩ (by simp) rfl; have e1 := hH.slot 4 121 d4 l1; have g1 := hH.holds 4 l1; rw [r4] at g1; rw [g1] at e1; exact ⟨.pointer (some ⟨gd, offd + kk * 3, none⟩), by simp [execOp, go_sem, e0, e1, hkz], (r5 _ _).mpr rfl⟩))) ?_
                      refine RV.AllDo.cons 6 (RV.does_guarded rfl d1 (fun v w h => by rw [r1] at h; exact h) (by simp) (RV.does_pure (fun γ v L w hl h => h) (fun γ L a w hH hl hA => by have l0 : L 5 = true := hA ⟨5, .data⟩ (by simp) rfl; have e0 := hH.slot 5 122 d5 l0; have g0 := hH.holds 5 l0; rw [r5] at g0; rw [g0] at e0; have hB9 := hH.glob; have v0 := c_after hB9 y0; have v1 := c_after hB9 y1; have v2 := c_after hB9 y2; exact ⟨.agg #[.int .i64 (ax), .int .i64 (ay), .int .i64 (az)], by simp [execOp, go_sem, e0, v0, v1, v2], (r6 _ _).mpr rfl⟩))) ?_
                      refine RV.AllDo.cons 7 (RV.does_guarded rfl d1 (fun v w h => by rw [r1] at h; exact h) (by simp) (RV.does_pure (fun γ v L w hl h => h) (fun γ L a w hH hl hA => by have e0 := E7 γ L a w hH; exact ⟨.pointer (some ⟨bc, 1, none⟩), by simp [execOp, go_sem, e0], (r7 _ _).mpr rfl⟩))) ?_
                      refine RV.AllDo.cons 8 (RV.does_guarded rfl d1 (fun v w h => by rw [r1] at h; exact h) (by simp) (RV.does_pure (fun γ v L w hl h => h) (fun γ L a w hH hl hA => by have l0 : L 7 = true := hA ⟨7, .data⟩ (by simp) rfl; have e0 := hH.slot 7 124 d7 l0; have g0 := hH.holds 7 l0; rw [r7] at g0; rw [g0] at e0; have hB9 := hH.glob; have z0 := c_after hB9 k1; exact ⟨.slice (some ⟨ga, offa, none⟩) A.length ca, by simp [execOp, go_sem, e0, z0], (r8 _ _).mpr rfl⟩))) ?_
                      refine RV.AllDo.cons 9 (RV.does_guarded rfl d1 (fun v w h => by rw [r1] at h; exact h) (by simp) (RV.does_pure (fun γ v L w hl h => h) (fun γ L a w hH hl hA => by have e0 := E16 γ L a w hH; exact ⟨.int .i64 ((ii : Int)), by simp [execOp, go_sem, e0], (r9 _ _).mpr rfl⟩))) ?_
                      refine RV.AllDo.cons 10 (RV.does_guarded rfl d1 (fun v w h => by rw [r1] at h; exact h) (by simp) (RV.does_pure (fun γ v L w hl h => h) (fun γ L a w hH hl hA => by have l0 : L 8 = true := hA ⟨8, .data⟩ (by simp) rfl; have e0 := hH.slot 8 125 d8 l0; have g0 := hH.holds 8 l0; rw [r8] at g0; rw [g0] at e0; have l1 : L 9 = true := hA ⟨9, .data⟩ (by simp) rfl; have e1 := hH.slot 9 126 d9 l1; have g1 := hH.holds 9 l1; rw [r9] at g1; rw [g1] at e1; exact ⟨.pointer (some ⟨ga, offa + ii * 3, none⟩), by simp [execOp, go_sem, e0, e1, hiz], (r10 _ _).mpr rfl⟩))) ?_
                      refine RV.AllDo.cons 11 (RV.does_guarded rfl d1 (fun v w h => by rw [r1] at h; exact h) (by simp) (RV.does_pure (fun γ v L w hl h => h) (fun γ L a w hH hl hA => by have l0 : L 10 = true := hA ⟨10, .data⟩ (by simp) rfl; have e0 := hH.slot 10 127 d10 l0; have g0 := hH.holds 10 l0; rw [r10] at g0; rw [g0] at e0; have hB9 := hH.glob; have v0 := c_after hB9 x0; have v1 := c_after hB9 x1; have v2 := c_after hB9 x2; exact ⟨.agg #[.int .i64 (ax), .int .i64 (ay), .int .i64 (az)], by simp [execOp, go_sem, e0, v0, v1, v2], (r11 _ _).mpr rfl⟩))) ?_
                      refine RV.AllDo.cons 12 (RV.does_guarded rfl d1 (fun v w h => by rw [r1] at h; exact h) (by simp) (RV.does_pure (fun γ v L w hl h => h) (fun γ L a w hH hl hA => by have l0 : L 6 = true := hA ⟨6, .data⟩ (by simp) rfl; have e0 := hH.slot 6 123 d6 l0; have g0 := hH.holds 6 l0; rw [r6] at g0; rw [g0] at e0; have l1 : L 11 = true := hA ⟨11, .data⟩ (by simp) rfl; have e1 := hH.slot 11 128 d11 l1; have g1 := hH.holds 11 l1; rw [r11] at g1; rw [g1] at e1; exact ⟨.bool (true), by simp [execOp, go_sem, e0, e1], (r12 _ _).mpr rfl⟩))) ?_
                      refine RV.AllDo.cons 13 (RV.does_pure (fun γ v L w hl h => h) (fun γ L a w hH hl hA => by have l0 : L 1 = true := hA ⟨1, .data⟩ (by simp) rfl; have e0 := hH.slot 1 118 d1 l0; have g0 := hH.holds 1 l0; rw [r1] at g0; rw [g0] at e0; have l1 : L 12 = true := hA ⟨12, .data⟩ (by simp) rfl; have e1 := hH.slot 12 129 d12 l1; have g1 := hH.holds 12 l1; rw [r12] at g1; rw [g1] at e1; exact ⟨.bool (true), by simp [execOp, go_sem, e0, e1], (r13 _ _).mpr rfl⟩)) ?_
                      refine RV.AllDo.cons 14 (RV.does_pure (fun γ v L w hl h => h) (fun γ L a w hH hl hA => by have l0 : L 13 = true := hA ⟨13, .data⟩ (by simp) rfl; have e0 := hH.slot 13 130 d13 l0; have g0 := hH.holds 13 l0; rw [r13] at g0; rw [g0] at e0; exact ⟨.bool (true), by simp [execOp, go_sem, e0], (r14 _ _).mpr rfl⟩)) ?_
                      exact RV.AllDo.nil
                    · intro γ a5 w5 L9 hL hLo hH
                      have ha := RV.held_act hH hL (by kernel_rfl) (by kernel_rfl)
                      have hb8 := hH.glob
                      have y0 : γ 0 = .bool (false) := hH.holds 0 (hL 0 (by decide))
                      have y1 : γ 1 = .bool (false) := hH.holds 1 (hL 1 (by decide))
                      have y2 : γ 2 = .pointer (some ⟨bd, 1, none⟩) := hH.holds 2 (hL 2 (by decide))
                      have y3 : γ 3 = .slice (some ⟨gd, offd, none⟩) Dx.length ca2 := hH.holds 3 (hL 3 (by decide))
                      have y4 : γ 4 = .int .i64 ((kk : Int)) := hH.holds 4 (hL 4 (by decide))
                      have y5 : γ 5 = .pointer (some ⟨gd, offd + kk * 3, none⟩) := hH.holds 5 (hL 5 (by decide))
                      have y6 : γ 6 = .agg #[.int .i64 (ax), .int .i64 (ay), .int .i64 (az)] := hH.holds 6 (hL 6 (by decide))
                      have y7 : γ 7 = .pointer (some ⟨bc, 1, none⟩) := hH.holds 7 (hL 7 (by decide))
                      have y8 : γ 8 = .slice (some ⟨ga, offa, none⟩) A.length ca := hH.holds 8 (hL 8 (by decide))
                      have y9 : γ 9 = .int .i64 ((ii : Int)) := hH.holds 9 (hL 9 (by decide))
                      have y10 : γ 10 = .pointer (some ⟨ga, offa + ii * 3, none⟩) := hH.holds 10 (hL 10 (by decide))
                      have y11 : γ 11 = .agg #[.int .i64 (ax), .int .i64 (ay), .int .i64 (az)] := hH.holds 11 (hL 11 (by decide))
                      have y12 : γ 12 = .bool (true) := hH.holds 12 (hL 12 (by decide))
                      have y13 : γ 13 = .bool (true) := hH.holds 13 (hL 13 (by decide))
                      have y14 : γ 14 = .bool (true) := hH.holds 14 (hL 14 (by decide))
                      rw [ha]
                      clear ha hH hL hLo
                      simp only [RV.putAll, Act.put, List.setIfInBounds_toArray, List.set_cons_zero, List.set_cons_succ, Nat.zero_add, Nat.reduceAdd, y0, y1, y2, y3, y4, y5, y6, y7, y8, y9, y10, y11, y12, y13, y14]
                      clear y0 y1 y2 y3 y4 y5 y6 y7 y8 y9 y10 y11 y12 y13 y14
                      have HB4 : Hid _ := b_step HB3.out hb8
                      clear hb8 x0 x1 x2 y0 y1 y2 k1 dd1
                      go_wp2_with (fail)
                      go_roundg (Dx.length - (kk + 1))
                      case measure => have := HG3.out; omega
                      case rel => exact ⟨kk + 1, by rw [EA.out, HNX.out]; simp, by go_num, by omega, rfl, HB4⟩
                  · have hq2 : dx = ax → dy = ay → ¬ dz = az := fun e1 e2 e3 => hq (by rw [e1, e2, e3])
                    have HQ : Hid _ := hq
                    clear hq
                    go_upto_region 32 with fail
                    refine RV.region_by (fun j v w => match j with | 0 => v = .bool (false) | 1 => v = .bool (false) | 2 => v = .pointer (some ⟨bd, 1, none⟩) | 3 => v = .slice (some ⟨gd, offd, none⟩) Dx.length ca2 | 4 => v = .int .i64 ((kk : Int)) | 5 => v = .pointer (some ⟨gd, offd + kk * 3, none⟩) | 6 => v = .agg #[.int .i64 (dx), .int .i64 (dy), .int .i64 (dz)] | 7 => v = .pointer (some ⟨bc, 1, none⟩) | 8 => v = .slice (some ⟨ga, offa, none⟩) A.length ca | 9 => v = .int .i64 ((ii : Int)) | 10 => v = .pointer (some ⟨ga, offa + ii * 3, none⟩) | 11 => v = .agg #[.int .i64 (ax), .int .i64 (ay), .int .i64 (az)] | 12 => v = .bool (false) | 13 => v = .bool (false) | 14 => v = .bool (false) | _ => True) (fun γ L w9 => Below wr.heap.size wr w9) (by kernel_rfl) (by kernel_rfl) (by kernel_rfl) (by kernel_rfl) ?_ ?_ ?_
                    · exact (Below.refl _ wr).drew
                    · generalize hD : dstOf _ = D
                      generalize hWA : waitsFor _ = WA
                      generalize hZ : Act.mk _ _ = Z
                      obtain ⟨R, hR⟩ : ∃ R : Nat → Value → World → Prop, R = (fun j v w => match j with | 0 => v = .bool (false) | 1 => v = .bool (false) | 2 => v = .pointer (some ⟨bd, 1, none⟩) | 3 => v = .slice (some ⟨gd, offd, none⟩) Dx.length ca2 | 4 => v = .int .i64 ((kk : Int)) | 5 => v = .pointer (some ⟨gd, offd + kk * 3, none⟩) | 6 => v = .agg #[.int .i64 (dx), .int .i64 (dy), .int .i64 (dz)] | 7 => v = .pointer (some ⟨bc, 1, none⟩) | 8 => v = .slice (some ⟨ga, offa, none⟩) A.length ca | 9 => v = .int .i64 ((ii : Int)) | 10 => v = .pointer (some ⟨ga, offa + ii * 3, none⟩) | 11 => v = .agg #[.int .i64 (ax), .int .i64 (ay), .int .i64 (az)] | 12 => v = .bool (false) | 13 => v = .bool (false) | 14 => v = .bool (false) | _ => True) := ⟨_, rfl⟩
                      rw [← hR]
                      have d0 : D 0 = some 117 := by rw [← hD]; rfl
                      have d1 : D 1 = some 118 := by rw [← hD]; rfl
                      have d2 : D 2 = some 119 := by rw [← hD]; rfl
                      have d3 : D 3 = some 120 := by rw [← hD]; rfl
                      have d4 : D 4 = some 121 := by rw [← hD]; rfl
                      have d5 : D 5 = some 122 := by rw [← hD]; rfl
                      have d6 : D 6 = some 123 := by rw [← hD]; rfl
                      have d7 : D 7 = some 124 := by rw [← hD]; rfl
                      have d8 : D 8 = some 125 := by rw [← hD]; rfl
                      have d9 : D 9 = some 126 := by rw [← hD]; rfl
                      have d10 : D 10 = some 127 := by rw [← hD]; rfl
                      have d11 : D 11 = some 128 := by rw [← hD]; rfl
                      have d12 : D 12 = some 129 := by rw [← hD]; rfl
                      have d13 : D 13 = some 130 := by rw [← hD]; rfl
                      have d14 : D 14 = some 17 := by rw [← hD]; rfl
                      have r0 : ∀ v w, R 0 v w = (v = .bool (false)) := fun v w => by rw [hR]; rfl
                      have r1 : ∀ v w, R 1 v w = (v = .bool (false)) := fun v w => by rw [hR]; rfl
                      have r2 : ∀ v w, R 2 v w = (v = .pointer (some ⟨bd, 1, none⟩)) := fun v w => by rw [hR]; rfl
                      have r3 : ∀ v w, R 3 v w = (v = .slice (some ⟨gd, offd, none⟩) Dx.length ca2) := fun v w => by rw [hR]; rfl
                      have r4 : ∀ v w, R 4 v w = (v = .int .i64 ((kk : Int))) := fun v w => by rw [hR]; rfl
                      have r5 : ∀ v w, R 5 v w = (v = .pointer (some ⟨gd, offd + kk * 3, none⟩)) := fun v w => by rw [hR]; rfl
                      have r6 : ∀ v w, R 6 v w = (v = .agg #[.int .i64 (dx), .int .i64 (dy), .int .i64 (dz)]) := fun v w => by rw [hR]; rfl
                      have r7 : ∀ v w, R 7 v w = (v = .pointer (some ⟨bc, 1, none⟩)) := fun v w => by rw [hR]; rfl
                      have r8 : ∀ v w, R 8 v w = (v = .slice (some ⟨ga, offa, none⟩) A.length ca) := fun v w => by rw [hR]; rfl
                      have r9 : ∀ v w, R 9 v w = (v = .int .i64 ((ii : Int))) := fun v w => by rw [hR]; rfl
                      have r10 : ∀ v w, R 10 v w = (v = .pointer (some ⟨ga, offa + ii * 3, none⟩)) := fun v w => by rw [hR]; rfl
                      have r11 : ∀ v w, R 11 v w = (v = .agg #[.int .i64 (ax), .int .i64 (ay), .int .i64 (az)]) := fun v w => by rw [hR]; rfl
                      have r12 : ∀ v w, R 12 v w = (v = .bool (false)) := fun v w => by rw [hR]; rfl
                      have r13 : ∀ v w, R 13 v w = (v = .bool (false)) := fun v w => by rw [hR]; rfl
                      have r14 : ∀ v w, R 14 v w = (v = .bool (false)) := fun v w => by rw [hR]; rfl
                      have X17 : ∀ j, D j = some 17 → j = 14 := fun j hj => by rw [← hD] at hj; exact dst_once (by kernel_rfl) hj rfl
                      have Y17 : Z.tmps[17]? = some (.bool (false)) := by rw [← hZ]; rfl
                      have LA_14_0 : WA 14 0 := by rw [← hWA]; exact ⟨_, rfl, ⟨0, .phase⟩, by simp, rfl, rfl⟩
                      have E7 : ∀ (γ : Nat → Value) (L : Nat → Bool) (a : Act) (w : World), RV.Held D WA R (fun γ L w9 => Below wr.heap.size wr w9) Z γ L a w → a.tmps[7]? = some (.pointer (some ⟨bc, 0, none⟩)) := fun γ L a w hH => (hH.rest 7 (by rw [← hD]; exact RV.dst_free (by kernel_rfl))).trans (by rw [← hZ]; rfl)
                      have E14 : ∀ (γ : Nat → Value) (L : Nat → Bool) (a : Act) (w : World), RV.Held D WA R (fun γ L w9 => Below wr.heap.size wr w9) Z γ L a w → a.tmps[14]? = some (.pointer (some ⟨bd, 0, none⟩)) := fun γ L a w hH => (hH.rest 14 (by rw [← hD]; exact RV.dst_free (by kernel_rfl))).trans (by rw [← hZ]; rfl)
                      have E16 : ∀ (γ : Nat → Value) (L : Nat → Bool) (a : Act) (w : World), RV.Held D WA R (fun γ L w9 => Below wr.heap.size wr w9) Z γ L a w → a.tmps[16]? = some (.int .i64 ((ii : Int))) := fun γ L a w hH => (hH.rest 16 (by rw [← hD]; exact RV.dst_free (by kernel_rfl))).trans (by rw [← hZ]; rfl)
                      have E18 : ∀ (γ : Nat → Value) (L : Nat → Bool) (a : Act) (w : World), RV.Held D WA R (fun γ L w9 => Below wr.heap.size wr w9) Z γ L a w → a.tmps[18]? = some (.int .i64 ((kk : Int))) := fun γ L a w hH => (hH.rest 18 (by rw [← hD]; exact RV.dst_free (by kernel_rfl))).trans (by rw [← hZ]; rfl)
                      have K : ∀ j v w w', R j v w → R j v w' := by rw [hR]; intro j v w w' h; exact h
                      clear hD hWA hZ hR
                      refine RV.AllDo.cons 0 (RV.does_pure (fun γ v L w hl h => h) (fun γ L a w hH hl hA => by have e0 := (hH.early 17 (fun j hj => by rw [X17 j hj]; exact RV.not_yet hH LA_14_0 hl)).trans Y17; exact ⟨.bool (false), by simp [execOp, go_sem, e0], (r0 _ _).mpr rfl⟩)) ?_
                      refine RV.AllDo.cons 1 (RV.does_pure (fun γ v L w hl h => h) (fun γ L a w hH hl hA => by have l0 : L 0 = true := hA ⟨0, .data⟩ (by simp) rfl; have e0 := hH.slot 0 117 d0 l0; have g0 := hH.holds 0 l0; rw [r0] at g0; rw [g0] at e0; exact ⟨.bool (false), by simp [execOp, go_sem, e0], (r1 _ _).mpr rfl⟩)) ?_
                      refine RV.AllDo.cons 2 (RV.does_guarded rfl d1 (fun v w h => by rw [r1] at h; exact h) (by simp) (RV.does_pure (fun γ v L w hl h => h) (fun γ L a w hH hl hA => by have e0 := E14 γ L a w hH; exact ⟨.pointer (some ⟨bd, 1, none⟩), by simp [execOp, go_sem, e0], (r2 _ _).mpr rfl⟩))) ?_
                      refine RV.AllDo.cons 3 (RV.does_guarded rfl d1 (fun v w h => by rw [r1] at h; exact h) (by simp) (RV.does_pure (fun γ v L w hl h => h) (fun γ L a w hH hl hA => by have l0 : L 2 = true := hA ⟨2, .data⟩ (by simp) rfl; have e0 := hH.slot 2 119 d2 l0; have g0 := hH.holds 2 l0; rw [r2] at g0; rw [g0] at e0; have hB9 := hH.glob; have z0 := c_after hB9 dd1; exact ⟨.slice (some ⟨gd, offd, none⟩) Dx.length ca2, by simp [execOp, go_sem, e0, z0], (r3 _ _).mpr rfl⟩))) ?_
                      refine RV.AllDo.cons 4 (RV.does_guarded rfl d1 (fun v w h => by rw [r1] at h; exact h) (by simp) (RV.does_pure (fun γ v L w hl h => h) (fun γ L a w hH hl hA => by have e0 := E18 γ L a w hH; exact ⟨.int .i64 ((kk : Int)), by simp [execOp, go_sem, e0], (r4 _ _).mpr rfl⟩))) ?_
                      refine RV.AllDo.cons 5 (RV.does_guarded rfl d1 (fun v w h => by rw [r1] at h; exact h) (by simp) (RV.does_pure (fun γ v L w hl h => h) (fun γ L a w hH hl hA => by have l0 : L 3 = true := hA ⟨3, .data⟩ (by simp) rfl; have e0 := hH.slot 3 120 d3 l0; have g0 := hH.holds 3 l0; rw [r3] at g0; rw [g0] at e0; have l1 : L 4 = true := hA ⟨4, .data⟩ (by simp) rfl; have e1 := hH.slot 4 121 d4 l1; have g1 := hH.holds 4 l1; rw [r4] at g1; rw [g1] at e1; exact ⟨.pointer (some ⟨gd, offd + kk * 3, none⟩), by simp [execOp, go_sem, e0, e1, hkz], (r5 _ _).mpr rfl⟩))) ?_
                      refine RV.AllDo.cons 6 (RV.does_guarded rfl d1 (fun v w h => by rw [r1] at h; exact h) (by simp) (RV.does_pure (fun γ v L w hl h => h) (fun γ L a w hH hl hA => by have l0 : L 5 = true := hA ⟨5, .data⟩ (by simp) rfl; have e0 := hH.slot 5 122 d5 l0; have g0 := hH.holds 5 l0; rw [r5] at g0; rw [g0] at e0; have hB9 := hH.glob; have v0 := c_after hB9 y0; have v1 := c_after hB9 y1; have v2 := c_after hB9 y2; exact ⟨.agg #[.int .i64 (dx), .int .i64 (dy), .int .i64 (dz)], by simp [execOp, go_sem, e0, v0, v1, v2], (r6 _ _).mpr rfl⟩))) ?_
                      refine RV.AllDo.cons 7 (RV.does_guarded rfl d1 (fun v w h => by rw [r1] at h; exact h) (by simp) (RV.does_pure (fun γ v L w hl h => h) (fun γ L a w hH hl hA => by have e0 := E7 γ L a w hH; exact ⟨.pointer (some ⟨bc, 1, none⟩), by simp [execOp, go_sem, e0], (r7 _ _).mpr rfl⟩))) ?_
                      refine RV.AllDo.cons 8 (RV.does_guarded rfl d1 (fun v w h => by rw [r1] at h; exact h) (by simp) (RV.does_pure (fun γ v L w hl h => h) (fun γ L a w hH hl hA => by have l0 : L 7 = true := hA ⟨7, .data⟩ (by simp) rfl; have e0 := hH.slot 7 124 d7 l0; have g0 := hH.holds 7 l0; rw [r7] at g0; rw [g0] at e0; have hB9 := hH.glob; have z0 := c_after hB9 k1; exact ⟨.slice (some ⟨ga, offa, none⟩) A.length ca, by simp [execOp, go_sem, e0, z0], (r8 _ _).mpr rfl⟩))) ?_
                      refine RV.AllDo.cons 9 (RV.does_guarded rfl d1 (fun v w h => by rw [r1] at h; exact h) (by simp) (RV.does_pure (fun γ v L w hl h => h) (fun γ L a w hH hl hA => by have e0 := E16 γ L a w hH; exact ⟨.int .i64 ((ii : Int)), by simp [execOp, go_sem, e0], (r9 _ _).mpr rfl⟩))) ?_
                      refine RV.AllDo.cons 10 (RV.does_guarded rfl d1 (fun v w h => by rw [r1] at h; exact h) (by simp) (RV.does_pure (fun γ v L w hl h => h) (fun γ L a w hH hl hA => by have l0 : L 8 = true := hA ⟨8, .data⟩ (by simp) rfl; have e0 := hH.slot 8 125 d8 l0; have g0 := hH.holds 8 l0; rw [r8] at g0; rw [g0] at e0; have l1 : L 9 = true := hA ⟨9, .data⟩ (by simp) rfl; have e1 := hH.slot 9 126 d9 l1; have g1 := hH.holds 9 l1; rw [r9] at g1; rw [g1] at e1; exact ⟨.pointer (some ⟨ga, offa + ii * 3, none⟩), by simp [execOp, go_sem, e0, e1, hiz], (r10 _ _).mpr rfl⟩))) ?_
                      refine RV.AllDo.cons 11 (RV.does_guarded rfl d1 (fun v w h => by rw [r1] at h; exact h) (by simp) (RV.does_pure (fun γ v L w hl h => h) (fun γ L a w hH hl hA => by have l0 : L 10 = true := hA ⟨10, .data⟩ (by simp) rfl; have e0 := hH.slot 10 127 d10 l0; have g0 := hH.holds 10 l0; rw [r10] at g0; rw [g0] at e0; have hB9 := hH.glob; have v0 := c_after hB9 x0; have v1 := c_after hB9 x1; have v2 := c_after hB9 x2; exact ⟨.agg #[.int .i64 (ax), .int .i64 (ay), .int .i64 (az)], by simp [execOp, go_sem, e0, v0, v1, v2], (r11 _ _).mpr rfl⟩))) ?_
                      refine RV.AllDo.cons 12 (RV.does_guarded rfl d1 (fun v w h => by rw [r1] at h; exact h) (by simp) (RV.does_pure (fun γ v L w hl h => h) (fun γ L a w hH hl hA => by have l0 : L 6 = true := hA ⟨6, .data⟩ (by simp) rfl; have e0 := hH.slot 6 123 d6 l0; have g0 := hH.holds 6 l0; rw [r6] at g0; rw [g0] at e0; have l1 : L 11 = true := hA ⟨11, .data⟩ (by simp) rfl; have e1 := hH.slot 11 128 d11 l1; have g1 := hH.holds 11 l1; rw [r11] at g1; rw [g1] at e1; exact ⟨.bool (false), by simp [execOp, go_sem, e0, e1]; exact hq2, (r12 _ _).mpr rfl⟩))) ?_
                      refine RV.AllDo.cons 13 (RV.does_pure (fun γ v L w hl h => h) (fun γ L a w hH hl hA => by have l0 : L 1 = true := hA ⟨1, .data⟩ (by simp) rfl; have e0 := hH.slot 1 118 d1 l0; have g0 := hH.holds 1 l0; rw [r1] at g0; rw [g0] at e0; have l1 : L 12 = true := hA ⟨12, .data⟩ (by simp) rfl; have e1 := hH.slot 12 129 d12 l1; have g1 := hH.holds 12 l1; rw [r12] at g1; rw [g1] at e1; exact ⟨.bool (false), by simp [execOp, go_sem, e0, e1], (r13 _ _).mpr rfl⟩)) ?_
                      refine RV.AllDo.cons 14 (RV.does_pure (fun γ v L w hl h => h) (fun γ L a w hH hl hA => by have l0 : L 13 = true := hA ⟨13, .data⟩ (by simp) rfl; have e0 := hH.slot 13 130 d13 l0; have g0 := hH.holds 13 l0; rw [r13] at g0; rw [g0] at e0; exact ⟨.bool (false), by simp [execOp, go_sem, e0], (r14 _ _).mpr rfl⟩)) ?_
                      exact RV.AllDo.nil
                    · intro γ a5 w5 L9 hL hLo hH
                      have ha := RV.held_act hH hL (by kernel_rfl) (by kernel_rfl)
                      have hb8 := hH.glob
                      have y0 : γ 0 = .bool (false) := hH.holds 0 (hL 0 (by decide))
                      have y1 : γ 1 = .bool (false) := hH.holds 1 (hL 1 (by decide))
                      have y2 : γ 2 = .pointer (some ⟨bd, 1, none⟩) := hH.holds 2 (hL 2 (by decide))
                      have y3 : γ 3 = .slice (some ⟨gd, offd, none⟩) Dx.length ca2 := hH.holds 3 (hL 3 (by decide))
                      have y4 : γ 4 = .int .i64 ((kk : Int)) := hH.holds 4 (hL 4 (by decide))
                      have y5 : γ 5 = .pointer (some ⟨gd, offd + kk * 3, none⟩) := hH.holds 5 (hL 5 (by decide))
                      have y6 : γ 6 = .agg #[.int .i64 (dx), .int .i64 (dy), .int .i64 (dz)] := hH.holds 6 (hL 6 (by decide))
                      have y7 : γ 7 = .pointer (some ⟨bc, 1, none⟩) := hH.holds 7 (hL 7 (by decide))
                      have y8 : γ 8 = .slice (some ⟨ga, offa, none⟩) A.length ca := hH.holds 8 (hL 8 (by decide))
                      have y9 : γ 9 = .int .i64 ((ii : Int)) := hH.holds 9 (hL 9 (by decide))
                      have y10 : γ 10 = .pointer (some ⟨ga, offa + ii * 3, none⟩) := hH.holds 10 (hL 10 (by decide))
                      have y11 : γ 11 = .agg #[.int .i64 (ax), .int .i64 (ay), .int .i64 (az)] := hH.holds 11 (hL 11 (by decide))
                      have y12 : γ 12 = .bool (false) := hH.holds 12 (hL 12 (by decide))
                      have y13 : γ 13 = .bool (false) := hH.holds 13 (hL 13 (by decide))
                      have y14 : γ 14 = .bool (false) := hH.holds 14 (hL 14 (by decide))
                      rw [ha]
                      clear ha hH hL hLo
                      simp only [RV.putAll, Act.put, List.setIfInBounds_toArray, List.set_cons_zero, List.set_cons_succ, Nat.zero_add, Nat.reduceAdd, y0, y1, y2, y3, y4, y5, y6, y7, y8, y9, y10, y11, y12, y13, y14]
                      clear y0 y1 y2 y3 y4 y5 y6 y7 y8 y9 y10 y11 y12 y13 y14
                      have HB4 : Hid _ := b_step HB3.out hb8
                      clear hb8 x0 x1 x2 y0 y1 y2 k1 dd1
                      go_wp2_with (fail)
                      go_roundg (Dx.length - (kk + 1))
                      case measure => have := HG3.out; omega
                      case rel => exact ⟨kk + 1, by rw [EA.out, HNX.out]; simp; exact fun e1 e2 e3 => HQ.out (by rw [e1, e2, e3]), by go_num, by omega, rfl, HB4⟩
              · have e : kk = Dx.length := by omega
                subst e
                have hfd : decide (pt A ii ∈ Dx.take Dx.length) = true := decide_eq_true (by rw [List.take_length]; exact HIN.out _ (pt_mem hit))
                rw [hfd]
                go_wp2_with (fail)
                go_roundg (A.length - (ii + 1))
                case measure => have := HG2.out; omega
                case rel => exact ⟨ii + 1, by go_num, by omega, rfl, HB3⟩
          · go_wp2_with (fail)
            go_ret
            exact ⟨rfl, b_step hD.out HB.out⟩
  · have e4 : (sk == 4) = false := beq_eq_false_iff_ne.2 hk4
    go_wp2_with (fail)
    go_ret
    exact ⟨rfl, hD.out⟩

/-! ### The row's step, after the guide's template -/
set_option maxRecDepth 100000 in
theorem lifted (os : Os) (started : os.Started) (H : Type) (enc : TypeId × Value → H) :
    ReturnsInHanded {} Try.checked os 5 .any (Rows.shapeFacesSpec.pre6 enc Try.prog Try.f5 Rows.shapeFacesRow.domain false) (Rows.shapeFacesSpec.post enc Try.prog Try.f5 false true false false) := by
  refine returnsInHanded_of_change (C := Try.checked) own started (by kernel_rfl) Try.func5
    (ChangeSpec.witness6 (enc := enc) (C := Try.checked) false ⟨#[], #[.agg #[.int .i64 0, .int .i64 0, .int .i64 0, .int .i64 0, .int .i64 0, .slice none 0 0], .slice none 0 0], []⟩ 8 (by kernel_rfl) (by kernel_rfl) (by kernel_rfl) (by kernel_rfl)) ?_
  intro W base args ds gs before hval0 hW hcnd _
  have hval : ∀ (j : Nat) t v, Try.f5.params[j]? = some t → args[j]? = some v → Value.okWide Try.prog W .any base t v := hval0
  have hW' := hW
  obtain ⟨p, q, hA0, hV, rfl, hfz, hnd⟩ := hW
  have hA : DataW.TrodAll enc Try.prog W 0 (fun _ => true) true Try.f5.params.toList args.toList ds p := hA0
  rw [Try.params5] at hA hval
  obtain ⟨v0, vs0, d0, ds0, p0, q0, hargs, rfl, rfl, h0, r0⟩ := trodAll_cons hA
  obtain ⟨v1, vs1, d1, ds1, p1, q1, rfl, rfl, rfl, h1, r1⟩ := trodAll_cons r0
  obtain ⟨rfl, rfl, rfl⟩ := trodAll_nil r1
  obtain rfl : args = #[v0, v1] := by cases args; simp_all
  obtain ⟨rfl, rfl⟩ := trodVars_none hV
  have k0 := h0
  have lt0 : ∀ x ∈ p0, x.block < W.heap.size := by obtain ⟨m, hm⟩ := k0; exact DataW.trod_lt m _ _ _ hm
  obtain ⟨k, rr, x, y, z, o, L, c, rfl, hL, hF, wk, wr, wx, wy, wz⟩ := open_raw2 (hval 0 42 v0 rfl rfl) h0
  have bk_ := bounds_i64 wk
  have br_ := bounds_i64 wr
  have bx_ := bounds_i64 wx
  have by_ := bounds_i64 wy
  have bz_ := bounds_i64 wz
  have k1 := h1
  have lt1 : ∀ x ∈ p1, x.block < W.heap.size := by obtain ⟨m, hm⟩ := k1; exact DataW.trod_lt m _ _ _ hm
  obtain ⟨on, nn, cn, rfl, hN⟩ := open_nums (hval 1 46 v1 rfl rfl) h1
  clear hA0 hval0
  refine (walk k rr x y z o L c on nn cn W hL hF (by omega) (by omega) (by omega) (by omega) (by omega) hN).mono fun e W' ⟨he, bel⟩ => ?_
  subst he
  exact ⟨_, rfl, _, _, _, [], _, [], hW', trodAll_mk1 (shut_bool Try.underlying4 _), (trodAll_cons_mk (Below.trod laidOut (by kernel_rfl) (of_decide_eq_true (by kernel_rfl)) k0 bel lt0) (trodAll_cons_mk (Below.trod laidOut (by kernel_rfl) (of_decide_eq_true (by kernel_rfl)) k1 bel lt1) trodAll_mk0)), rfl, bel.frame _, fun h => by cases h⟩

theorem over : Rows.shapeFacesRow.holds Try.pinned (OpenSpec.ofChange Rows.shapeFacesSpec) :=
  OpenClaim.holds_of_wide 5 Try.f5 rfl rfl rfl rfl rfl rfl rfl ⟨rfl, rfl, rfl, rfl, rfl⟩ rfl rfl rfl rfl rfl (by kernel_rfl) Try.func5 (by kernel_rfl)
    (of_decide_eq_true (by kernel_rfl)) (by unfold Func.isWrapper; first | (rw [if_pos (by decide +kernel)]; kernel_rfl) | (rw [if_neg (by decide +kernel)]; exact ⟨rfl, rfl⟩))
    (fun os started H enc _ => lifted os started H enc)

end shapeFaces

theorem shapeFaces_holds : Rows.ShapeFacesSaid := shapeFaces.over
#print axioms shapeFaces_holds
end Go.Proofs.Ytiicpdlaaklahaa
