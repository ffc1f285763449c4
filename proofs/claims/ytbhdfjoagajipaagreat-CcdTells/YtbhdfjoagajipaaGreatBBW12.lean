/- The document's own layer 11: Trail. -/
import Derived.Test.YtbhdfjoagajipaaGreatBBW8
import Derived.Test.YtbhdfjoagajipaaGreatBBW6
import Derived.Test.YtbhdfjoagajipaaGreatBBW7
import Derived.Test.YtbhdfjoagajipaaGreatBBW9
import Derived.Test.YtbhdfjoagajipaaGreatBBW11
import Derived.Deep.LoopGhost
namespace Go.Proofs.YtbhdfjoagajipaaGreat
open Go.RowKit Go.Shelf
set_option linter.unusedVariables false

/-- Three lists of points that a call made anew. -/
structure Own3 (w0 W : World) (vp va ve : Value) (P A E : List Pt) : Prop where
  rp : W.ownsRow w0.heap.size 23 3 vp P.length (fl3 P)
  ra : W.ownsRow w0.heap.size 23 3 va A.length (fl3 A)
  re : W.ownsRow w0.heap.size 23 3 ve E.length (fl3 E)
  below : Below w0.heap.size w0 W
set_option maxHeartbeats 16000000 in
set_option maxRecDepth 100000 in
theorem rtrail_yes (co : Cr) (wy : Pt) (k : Int) (pv av ev : Value) (w0 : World) (hp : Lies w0 pv co.P) (ha : Lies w0 av co.A) (he : Lies w0 ev co.E) (hg : goB co wy = true) (hk : 0 ≤ k ∧ k ≤ 16) :
    Calls Tryz.prog 26 #[coreA pv av ev co.r, wy.v, .int .i64 k] w0 fun e W => ∃ vp va ve, e = .returned (coreA vp va ve co.r) ∧ Own3 w0 W vp va ve (co.P ++ co.P.map (·.mov (wayBy wy k))) (keepD (co.A ++ co.E.map (fun e => (e.cross wy.short).short))) (keepD (co.E ++ [wy.short])) := by
  obtain ⟨i0, hii, hiz, hisz, hib⟩ := info_parts point_info
  have HI : Hid _ := And.intro hii (And.intro hiz (And.intro hisz hib))
  clear hii hiz hisz hib
  obtain ⟨hmay, hpl, hwb, hPB, hAB, hEB⟩ := go_parts hg
  have hgl : co.A.length ≤ 128 ∧ co.E.length ≤ 128 := go_lens hg
  have HMA : Hid _ := fun w' (h : Below w0.heap.size w0 w') => rmay9_any co pv av ev w' (hp.below h) (ha.below h) (he.below h)
  have HMW : Hid _ := fun w' => rmay11_any wy w'
  have HSH : Hid (∀ (p : Pt) w', Calls Tryz.prog 74 #[p.v] w' fun e W => e = .returned (p.short).v ∧ Below w'.heap.size w' W) := fun p w' => rshort_any p w'
  have HCR : Hid _ := fun (p q : Pt) (w' : World) h1 h2 => rcross9_any p q w' h1 h2
  rw [hmay] at HMA
  rw [hwb] at HMW
  have HLP : Hid _ := hp
  have HLA : Hid _ := ha
  have HLE : Hid _ := he
  obtain ⟨o1, c1, rfl, _⟩ := hp.form
  obtain ⟨o2, c2, rfl, _⟩ := ha.form
  obtain ⟨o3, c3, rfl, _⟩ := he.form
  have HPL : Hid _ := hpl
  have HGL : Hid _ := hgl
  have HPB : Hid _ := hPB
  have HEB : Hid _ := hEB
  rw [Pt.inB_iff] at hwb
  obtain ⟨sw, hsw⟩ : ∃ p, wy.short = p := ⟨_, rfl⟩
  have hswb : sw.inB 1048576 = true := by rw [← hsw]; exact short_in _
  have HSWB : Hid _ := hswb
  have HSWE : Hid _ := hsw
  obtain ⟨wx, wq, wz⟩ := wy
  dsimp only at hwb
  have mx1 := mul_in (a := wx) (b := k) (A := 4194304) (B := 16) (by omega) (by omega)
  obtain ⟨mx, hmx⟩ : ∃ x, wx * k = x := ⟨_, rfl⟩
  have w_mx : IntKind.i64.wrap (wx * k) = mx := by rw [hmx, IntKind.wrap_i64]; omega
  obtain ⟨bx, hbx⟩ : ∃ x, mx.tdiv 16 = x := ⟨_, rfl⟩
  have lbx : -4194304 ≤ bx ∧ bx ≤ 4194304 := by have h9 := part_between (x := wx) hk; rw [hmx, hbx] at h9; omega
  have w_bx : wrap64 (mx.tdiv 16) = bx := by rw [hbx]; exact w64 (by omega) (by omega)
  have mq1 := mul_in (a := wq) (b := k) (A := 4194304) (B := 16) (by omega) (by omega)
  obtain ⟨mq, hmq⟩ : ∃ x, wq * k = x := ⟨_, rfl⟩
  have w_mq : IntKind.i64.wrap (wq * k) = mq := by rw [hmq, IntKind.wrap_i64]; omega
  obtain ⟨bq, hbq⟩ : ∃ x, mq.tdiv 16 = x := ⟨_, rfl⟩
  have lbq : -4194304 ≤ bq ∧ bq ≤ 4194304 := by have h9 := part_between (x := wq) hk; rw [hmq, hbq] at h9; omega
  have w_bq : wrap64 (mq.tdiv 16) = bq := by rw [hbq]; exact w64 (by omega) (by omega)
  have mz1 := mul_in (a := wz) (b := k) (A := 4194304) (B := 16) (by omega) (by omega)
  obtain ⟨mz, hmz⟩ : ∃ x, wz * k = x := ⟨_, rfl⟩
  have w_mz : IntKind.i64.wrap (wz * k) = mz := by rw [hmz, IntKind.wrap_i64]; omega
  obtain ⟨bz, hbz⟩ : ∃ x, mz.tdiv 16 = x := ⟨_, rfl⟩
  have lbz : -4194304 ≤ bz ∧ bz ≤ 4194304 := by have h9 := part_between (x := wz) hk; rw [hmz, hbz] at h9; omega
  have w_bz : wrap64 (mz.tdiv 16) = bz := by rw [hbz]; exact w64 (by omega) (by omega)
  have hwy : wayBy ⟨wx, wq, wz⟩ k = ⟨bx, bq, bz⟩ := by unfold wayBy; dsimp only; rw [hmx, hmq, hmz, hbx, hbq, hbz]
  have HWY : Hid _ := hwy
  have HBB : Hid ((-4194304 ≤ bx ∧ bx ≤ 4194304) ∧ (-4194304 ≤ bq ∧ bq ≤ 4194304) ∧ (-4194304 ≤ bz ∧ bz ≤ 4194304)) := ⟨lbx, lbq, lbz⟩
  have HWB : Hid ((IntKind.i64.wrap (wx * k) = mx ∧ IntKind.i64.wrap (wq * k) = mq ∧ IntKind.i64.wrap (wz * k) = mz) ∧ wrap64 (mx.tdiv 16) = bx ∧ wrap64 (mq.tdiv 16) = bq ∧ wrap64 (mz.tdiv 16) = bz) := ⟨⟨w_mx, w_mq, w_mz⟩, w_bx, w_bq, w_bz⟩
  have hp16 : ¬ (16 : Int) < (co.P.length : Int) := by omega
  have hk1 : ¬ k < 0 := by omega
  have hk2 : ¬ (16 : Int) < k := by omega
  clear hp ha he hmay hpl hwb hPB hAB hEB hgl hswb hsw hwy hk hg mx1 hmx w_mx hbx lbx w_bx mq1 hmq w_mq hbq lbq w_bq mz1 hmz w_mz hbz lbz w_bz
  unfold coreA Pt.v at *
  dsimp only at *
  obtain ⟨V, hV⟩ : ∃ V, V = (((w0.alloc (.cells #[.slice o1 co.P.length c1, .slice o2 co.A.length c2, .slice o3 co.E.length c3, .int .i64 co.r] 35)).alloc (.cells #[.int .i64 wx, .int .i64 wq, .int .i64 wz] 23)).alloc (.cells #[.slice none 0 0, .slice none 0 0, .slice none 0 0, .int .i64 0] 35)) := ⟨_, rfl⟩
  have hb0 := n_after w0 (.cells #[.slice o1 co.P.length c1, .slice o2 co.A.length c2, .slice o3 co.E.length c3, .int .i64 co.r] 35)
  have hb1 := n_after (w0.alloc (.cells #[.slice o1 co.P.length c1, .slice o2 co.A.length c2, .slice o3 co.E.length c3, .int .i64 co.r] 35)) (.cells #[.int .i64 wx, .int .i64 wq, .int .i64 wz] 23)
  have hb2 := n_after ((w0.alloc (.cells #[.slice o1 co.P.length c1, .slice o2 co.A.length c2, .slice o3 co.E.length c3, .int .i64 co.r] 35)).alloc (.cells #[.int .i64 wx, .int .i64 wq, .int .i64 wz] 23)) (.cells #[.slice none 0 0, .slice none 0 0, .slice none 0 0, .int .i64 0] 35)
  have Cc : CW V (w0.heap.size) [.slice o1 co.P.length c1, .slice o2 co.A.length c2, .slice o3 co.E.length c3, .int .i64 co.r] := by
    have h9 := ((CW.new w0 [.slice o1 co.P.length c1, .slice o2 co.A.length c2, .slice o3 co.E.length c3, .int .i64 co.r] 35).step hb1).step hb2
    rw [hV]; exact h9
  have Cw : CW V (w0.heap.size + 1) [.int .i64 wx, .int .i64 wq, .int .i64 wz] := by
    have h9 := (CW.new (w0.alloc (.cells #[.slice o1 co.P.length c1, .slice o2 co.A.length c2, .slice o3 co.E.length c3, .int .i64 co.r] 35)) [.int .i64 wx, .int .i64 wq, .int .i64 wz] 23).step hb2
    simp only [World.size_alloc] at h9
    rw [hV]; exact h9
  have Cr : CW V (w0.heap.size + 1 + 1) [.slice none 0 0, .slice none 0 0, .slice none 0 0, .int .i64 0] := by
    have h9 := CW.new ((w0.alloc (.cells #[.slice o1 co.P.length c1, .slice o2 co.A.length c2, .slice o3 co.E.length c3, .int .i64 co.r] 35)).alloc (.cells #[.int .i64 wx, .int .i64 wq, .int .i64 wz] 23)) [.slice none 0 0, .slice none 0 0, .slice none 0 0, .int .i64 0] 35
    simp only [World.size_alloc] at h9
    rw [hV]; exact h9
  have hB : Below w0.heap.size w0 V := by rw [hV]; exact (b_step (b_step hb0 hb1) hb2)
  clear hb0 hb1 hb2
  have HB : Hid _ := hB
  clear hB
  go_enter Tryz.func26, Tryz.ntmps26
  go_upto_region 1 with fail
  rw [← hV]
  clear hV
  obtain ⟨pr, hpr⟩ : ∃ p, p = w0.heap.size + 1 + 1 := ⟨_, rfl⟩
  obtain ⟨pw, hpw⟩ : ∃ p, p = w0.heap.size + 1 := ⟨_, rfl⟩
  obtain ⟨pc, hpc⟩ : ∃ p, p = w0.heap.size := ⟨_, rfl⟩
  rw [← hpr] at Cr
  rw [← hpw] at Cw
  rw [← hpc] at Cc
  rw [← hpr, ← hpw, ← hpc]
  have HPX : Hid (pc = w0.heap.size ∧ pw = w0.heap.size + 1 ∧ pr = w0.heap.size + 1 + 1) := ⟨hpc, hpw, hpr⟩
  clear hpc hpw hpr
  have Cc : Hid (CW _ _ _) := Cc
  have Cw : Hid (CW _ _ _) := Cw
  have Cr : Hid (CW _ _ _) := Cr
  have k0 := (Cc.out 0 _ rfl).1
  have k1 := (Cc.out 1 _ rfl).1
  have k2 := (Cc.out 2 _ rfl).1
  have k3 := (Cc.out 3 _ rfl).1
  go_wp2_with (fail)
  refine Calls.mono (HMA.out _ HB.out) ?_
  rintro e V1 ⟨rfl, hb⟩
  have HB : Hid (Below w0.heap.size w0 V1) := b_step HB.out hb
  have Cc : Hid (CW _ _ _) := Cc.out.step hb
  have Cw : Hid (CW _ _ _) := Cw.out.step hb
  have Cr : Hid (CW _ _ _) := Cr.out.step hb
  clear hb k0 k1 k2 k3 HMA
  have y0 := (Cw.out 0 _ rfl).1
  have y1 := (Cw.out 1 _ rfl).1
  have y2 := (Cw.out 2 _ rfl).1
  go_wp2_with (fail)
  refine Calls.mono (HMW.out _) ?_
  rintro e V2 ⟨rfl, hb⟩
  have HB : Hid (Below w0.heap.size w0 V2) := b_step HB.out hb
  have Cc : Hid (CW _ _ _) := Cc.out.step hb
  have Cw : Hid (CW _ _ _) := Cw.out.step hb
  have Cr : Hid (CW _ _ _) := Cr.out.step hb
  clear hb y0 y1 y2 HMW
  have k0 := (Cc.out 0 _ rfl).1
  go_upto_region 5 with fail
  clear k0 hp16 hk1 hk2
  have y0 := (Cw.out 0 _ rfl).1
  have y1 := (Cw.out 1 _ rfl).1
  have y2 := (Cw.out 2 _ rfl).1
  obtain ⟨⟨w_1, w_2, w_3⟩, w_4, w_5, w_6⟩ := HWB.out
  obtain ⟨V3, hV3⟩ : ∃ X, X = V2.alloc (.cells #[.int .i64 bx, .int .i64 bq, .int .i64 bz] 23) := ⟨_, rfl⟩
  obtain ⟨bb, hbb⟩ : ∃ x, x = V2.heap.size := ⟨_, rfl⟩
  have kb : Below V2.heap.size V2 V3 := by rw [hV3]; exact n_after _ _
  have CB : Hid (CW V3 bb [.int .i64 bx, .int .i64 bq, .int .i64 bz]) := by show CW _ _ _; rw [hV3, hbb]; exact CW.new V2 [.int .i64 bx, .int .i64 bq, .int .i64 bz] 23
  have HB : Hid (Below w0.heap.size w0 V3) := b_step HB.out kb
  have Cc : Hid (CW _ _ _) := Cc.out.step kb
  have Cw : Hid (CW _ _ _) := Cw.out.step kb
  have Cr : Hid (CW _ _ _) := Cr.out.step kb
  clear kb
  have Cc3 : Hid (CW _ _ _) := Cc
  have Cw3 : Hid (CW _ _ _) := Cw
  have Cr3 : Hid (CW _ _ _) := Cr
  have CB3 : Hid (CW _ _ _) := CB
  go_upto_region 6 with fail
  rw [← hV3, ← hbb]
  clear hV3 hbb y0 y1 y2 w_1 w_2 w_3 w_4 w_5 w_6 HWB
  have HB0_ : Hid _ := HB.out
  have k3 := (Cc.out 3 _ rfl).1
  obtain ⟨V4, hV4⟩ : ∃ X, X = V3.alloc (.cells #[.slice none 0 0, .slice none 0 0, .slice none 0 0, .int .i64 co.r] 35) := ⟨_, rfl⟩
  obtain ⟨ob, hob⟩ : ∃ x, x = V3.heap.size := ⟨_, rfl⟩
  have kb : Below V3.heap.size V3 V4 := by rw [hV4]; exact n_after _ _
  have CO : Hid (CW V4 ob [.slice none 0 0, .slice none 0 0, .slice none 0 0, .int .i64 co.r]) := by show CW _ _ _; rw [hV4, hob]; exact CW.new V3 [.slice none 0 0, .slice none 0 0, .slice none 0 0, .int .i64 co.r] 35
  have HB : Hid (Below w0.heap.size w0 V4) := b_step HB.out kb
  have Cc : Hid (CW _ _ _) := Cc.out.step kb
  have Cw : Hid (CW _ _ _) := Cw.out.step kb
  have Cr : Hid (CW _ _ _) := Cr.out.step kb
  have CB : Hid (CW _ _ _) := CB.out.step kb
  have HOB : Hid (V3.heap.size ≤ ob ∧ ob < V4.heap.size) := by have h9 := CW.lt CO.out; show _ ∧ _; omega
  have HB3 : Hid (Below w0.heap.size w0 V3 ∧ Below V3.heap.size V3 V4) := ⟨HB0_.out, kb⟩
  clear kb
  go_upto_region 7 with fail
  rw [← hV4, ← hob]
  clear hV4 hob k3
  have y0 := (Cc.out 0 _ rfl).1
  have x0 := (CO.out 0 _ rfl).1
  go_upto_region 8 with (at_builtin; refine append_lies rfl _ _ rfl (ob + 1) _ [] rfl (World.ownsRow_nil _ _ _ _) _ co.P rfl (HLP.out.below HB.out) (by have := HPL.out; simp; omega) (by have h9 := HOB.out; omega) ?_; intro u1 V5 r1 g1 _; rw [List.nil_append] at r1; have hb5 : Below V3.heap.size V3 V5 := HB3.out.2.grown g1 HB3.out.2.size (fun k e => by cases e); have CO : Hid (CW _ _ _) := cw_grown CO.out g1 (by intro e; cases e); have HR5 : Hid _ := r1; have HB5 : Hid _ := hb5; have HS5 : Hid (ob + 1 ≤ V5.heap.size) := Nat.le_trans HOB.out.2 g1.size; obtain ⟨oo, cc, rfl⟩ := rowp_form r1; obtain ⟨k0, kf0⟩ := CO.out 0 _ rfl; clear r1 g1 hb5)
  have HR6 : Hid ((V5.setCell ⟨ob, 0, none⟩ (.slice oo co.P.length cc)).ownsRow (ob + 1) 23 3 (.slice oo co.P.length cc) co.P.length (fl3 co.P)) := ownsRow_setCell_below HR5.out (a := ⟨ob, 0, none⟩) (Nat.lt_succ_self _) _
  have CO6 : Hid (CW (V5.setCell ⟨ob, 0, none⟩ (.slice oo co.P.length cc)) ob [.slice oo co.P.length cc, .slice none 0 0, .slice none 0 0, .int .i64 co.r]) := cw_set0 CO.out _
  have HB6 : Hid (Below V3.heap.size V3 (V5.setCell ⟨ob, 0, none⟩ (.slice oo co.P.length cc))) := HB5.out.setCell HOB.out.1 _
  have HS6 : Hid (ob + 1 ≤ (V5.setCell ⟨ob, 0, none⟩ (.slice oo co.P.length cc)).heap.size) := by have := HS5.out; show _ ≤ _; simpa [World.setCell] using this
  clear CO HR5 HB5 HS5 k0 kf0 y0 x0
  obtain ⟨V6, hV6⟩ : ∃ X, X = V5.setCell ⟨ob, 0, none⟩ (.slice oo co.P.length cc) := ⟨_, rfl⟩
  rw [← hV6] at HR6 CO6 HB6 HS6 ⊢
  clear hV6 V5
  have HM3 : Hid (CW V3 pc _ ∧ CW V3 pw _ ∧ CW V3 pr _ ∧ CW V3 bb _) := ⟨Cc3.out, Cw3.out, Cr3.out, CB3.out⟩
  clear Cc Cw Cr CB Cc3 Cw3 Cr3 CB3
  have HLP3 : Hid _ := HLP.out.below HB3.out.1
  go_wp2_with (fail)
  go_loopg [11] co.P.length (fun gm s11 w2 => ∃ (n : Nat) (M : List Pt) (ou : Option Addr) (cu : Nat), s11 = .int .i64 (n : Int) ∧ n ≤ co.P.length ∧ Hid (gm = co.P.length - n) ∧ Hid (M.length = co.P.length + n) ∧ Hid (M = co.P ++ (co.P.take n).map (·.mov ⟨bx, bq, bz⟩)) ∧ Hid (CW w2 ob [.slice ou M.length cu, .slice none 0 0, .slice none 0 0, .int .i64 co.r]) ∧ Hid (w2.ownsRow (ob + 1) 23 3 (.slice ou M.length cu) M.length (fl3 M)) ∧ Hid (Below V3.heap.size V3 w2) ∧ Hid (ob + 1 ≤ w2.heap.size))
  case atStart => exact ⟨0, co.P, oo, cc, rfl, Nat.zero_le _, rfl, rfl, (by show _ = _; simp), CO6.out, HR6.out, HB6.out, HS6.out⟩
  case round =>
    obtain ⟨n, M, ou, cu, rfl, hn9, HGN, HMn, HM, CK2, HRW, HBN, HSN⟩ := hrel
    have y0 := c_after HBN.out (HM3.out.1 0 _ rfl).1
    by_cases hnt : n < co.P.length
    · have hn1 : (n : Int) < (co.P.length : Int) := by omega
      obtain ⟨o', cap', e', _, _, hpc⟩ := (HLP3.out.below HBN.out).form
      cases e'
      obtain ⟨g4, f4, rfl, p0, p1, p2⟩ := hpc n hnt
      have hpb := HPB.out (pt co.P n) (pt_mem hnt)
      have htn := take_next (f := fun p => p.mov ⟨bx, bq, bz⟩) hnt
      obtain ⟨⟨px, py, pz⟩, hpt⟩ : ∃ q, pt co.P n = q := ⟨_, rfl⟩
      rw [hpt] at p0 p1 p2 hpb htn
      dsimp only at p0 p1 p2
      have hdb := HBB.out
      rw [Pt.inB_iff] at hpb
      dsimp only at hdb hpb
      obtain ⟨sx, hsx⟩ : ∃ x, px + bx = x := ⟨_, rfl⟩
      obtain ⟨sy, hsy⟩ : ∃ x, py + bq = x := ⟨_, rfl⟩
      obtain ⟨sz, hsz⟩ : ∃ x, pz + bz = x := ⟨_, rfl⟩
      have w_x : IntKind.i64.wrap (px + bx) = sx := by rw [hsx, IntKind.wrap_i64]; omega
      have w_y : IntKind.i64.wrap (py + bq) = sy := by rw [hsy, IntKind.wrap_i64]; omega
      have w_z : IntKind.i64.wrap (pz + bz) = sz := by rw [hsz, IntKind.wrap_i64]; omega
      have htn2 : M ++ [(⟨sx, sy, sz⟩ : Pt)] = co.P ++ (co.P.take (n + 1)).map (·.mov ⟨bx, bq, bz⟩) := by rw [HM.out, List.append_assoc, ← htn]; unfold Pt.mov; dsimp only; rw [hsx, hsy, hsz]
      have HTN : Hid _ := htn2
      have HMX2 : Hid ((M.length : Int) < 1099511627776) := by have a := HPL.out; have b := HMn.out; show _ < _; omega
      clear hpc hpb hpt hdb hsx hsy hsz htn htn2 HM
      go_upto_region 12 with fail
      obtain ⟨V2c, hV2c⟩ : ∃ X, X = wr.alloc (.cells #[.int .i64 px, .int .i64 py, .int .i64 pz] 23) := ⟨_, rfl⟩
      obtain ⟨pb, hpb⟩ : ∃ x, x = wr.heap.size := ⟨_, rfl⟩
      have kb : Below wr.heap.size wr V2c := by rw [hV2c]; exact n_after _ _
      have CP : Hid (CW V2c pb [.int .i64 px, .int .i64 py, .int .i64 pz]) := by show CW _ _ _; rw [hV2c, hpb]; exact CW.new wr [.int .i64 px, .int .i64 py, .int .i64 pz] 23
      rw [← hV2c, ← hpb]
      have HRW2 : Hid (V2c.ownsRow (ob + 1) 23 3 (.slice ou M.length cu) M.length (fl3 M)) := own_below HRW.out kb
      have CK2 : Hid (CW _ _ _) := CK2.out.step kb
      have HBN2 : Hid (Below V3.heap.size V3 V2c) := b_step HBN.out kb
      have HSN2 : Hid (ob + 1 ≤ V2c.heap.size) := Nat.le_trans HSN.out kb.size
      clear kb hV2c hpb y0 p0 p1 p2 HRW HBN HSN
      obtain ⟨k0, kf0⟩ := CK2.out 0 _ rfl
      have p0 := (CP.out 0 _ rfl).1
      have p1 := (CP.out 1 _ rfl).1
      have p2 := (CP.out 2 _ rfl).1
      have y0 := c_after HBN2.out (HM3.out.2.2.2 0 _ rfl).1
      have y1 := c_after HBN2.out (HM3.out.2.2.2 1 _ rfl).1
      have y2 := c_after HBN2.out (HM3.out.2.2.2 2 _ rfl).1
      have hmx := HMX2.out
      have hsn := HSN2.out
      go_wp2_with (at_builtin; refine wpList_append_own_at _ rfl _ _ 24 rfl (ob + 1) 23 i0 _ 3 24 Tryz.underlying24 HI.out.1 HI.out.2.1 HI.out.2.2.1 HI.out.2.2.2 rfl (by decide) _ _ _ rfl (own_below HRW2.out (n_after V2c _)) ⟨V2c.heap.size, 0, none⟩ 1 1 [.int .i64 sx, .int .i64 sy, .int .i64 sz] rfl rfl (news_at (heap_alloc_new V2c _)) (by intro u hu; simp at hu; rcases hu with rfl | rfl | rfl <;> rfl) (by unfold maxLen; omega) (by omega) (by simp; omega) ?_; intro u9 V6 r8 g8 _ s8; have hne8 : (Value.slice ou M.length cu).ownBlock ≠ some ob := (fun e => by have h9 := (HRW2.out.lt ob e).1; omega); have hb8 : Below V3.heap.size V3 V6 := (b_step HBN2.out (n_after V2c _)).grown g8 (by have := HBN2.out.size; simp; omega) (fun b e => by have h9 := (HRW2.out.lt b e).1; have h7 := HOB.out.1; omega); have CK8 : Hid (CW V6 ob [.slice ou M.length cu, .slice none 0 0, .slice none 0 0, .int .i64 co.r]) := cw_grown (CK2.out.step (n_after V2c _)) g8 hne8; have HS8 : Hid (ob + 1 ≤ V6.heap.size) := (by have h9 := g8.size; simp at h9; show _ ≤ _; omega); have HR8 : Hid _ := r8; have HB8 : Hid _ := hb8; obtain ⟨gg8, kk8, rfl⟩ := ownsRow_succ r8; obtain ⟨k08, kf08⟩ := CK8.out 0 _ rfl; clear r8 g8 s8 hne8 hb8 k0 kf0 p0 p1 p2 y0 y1 y2)
      have hlm : (M ++ [(⟨sx, sy, sz⟩ : Pt)]).length = M.length + 1 := by simp
      have HR9 : Hid ((V6.setCell ⟨ob, 0, none⟩ (.slice (some ⟨gg8, 0, none⟩) (M.length + 1) kk8)).ownsRow (ob + 1) 23 3 (.slice (some ⟨gg8, 0, none⟩) (M.length + 1) kk8) (M ++ [(⟨sx, sy, sz⟩ : Pt)]).length (fl3 (M ++ [(⟨sx, sy, sz⟩ : Pt)]))) := by rw [hlm, fl3_append]; exact ownsRow_setCell_below HR8.out (a := ⟨ob, 0, none⟩) (Nat.lt_succ_self _) _
      have CK9 : Hid (CW (V6.setCell ⟨ob, 0, none⟩ (.slice (some ⟨gg8, 0, none⟩) (M.length + 1) kk8)) ob [.slice (some ⟨gg8, 0, none⟩) (M.length + 1) kk8, .slice none 0 0, .slice none 0 0, .int .i64 co.r]) := cw_set0 CK8.out _
      have HB9b : Hid (Below V3.heap.size V3 (V6.setCell ⟨ob, 0, none⟩ (.slice (some ⟨gg8, 0, none⟩) (M.length + 1) kk8))) := HB8.out.setCell HOB.out.1 _
      have HS9 : Hid (ob + 1 ≤ (V6.setCell ⟨ob, 0, none⟩ (.slice (some ⟨gg8, 0, none⟩) (M.length + 1) kk8)).heap.size) := by have := HS8.out; show _ ≤ _; simpa [World.setCell] using this
      clear hmx hsn CK8 HR8 HB8 HS8 k08 kf08 CK2 CP HRW2 HBN2 HSN2 HMX2
      go_roundg (co.P.length - (n + 1))
      case measure => have := HGN.out; omega
      case rel => exact ⟨n + 1, M ++ [⟨sx, sy, sz⟩], some ⟨gg8, 0, none⟩, kk8, by go_num, by omega, rfl, by show _ = _; rw [hlm, HMn.out]; omega, HTN, by rw [hlm]; exact CK9, by rw [hlm]; rw [hlm] at HR9; exact HR9, HB9b, HS9⟩
    · obtain rfl : n = co.P.length := by omega
      have hMM : M = co.P ++ co.P.map (·.mov (wayBy ⟨wx, wq, wz⟩ k)) := by rw [HM.out, List.take_length, HWY.out]
      have HMM : Hid _ := hMM
      have hn2 : ¬ (co.P.length : Int) < (co.P.length : Int) := by omega
      clear hMM HM HGN
      go_upto_region 13 with fail
      have q0 := c_after HBN.out (HM3.out.2.1 0 _ rfl).1
      have q1 := c_after HBN.out (HM3.out.2.1 1 _ rfl).1
      have q2 := c_after HBN.out (HM3.out.2.1 2 _ rfl).1
      go_wp2_with (fail)
      refine Calls.mono (HSH.out ⟨wx, wq, wz⟩ _) ?_
      rintro e V8 ⟨rfl, hb⟩
      rw [HSWE.out]
      have HBN8 : Hid (Below V3.heap.size V3 V8) := b_step HBN.out hb
      have CK8 : Hid (CW _ _ _) := CK2.out.step hb
      have HR8 : Hid (V8.ownsRow (ob + 1) 23 3 (.slice ou M.length cu) M.length (fl3 M)) := own_below HRW.out hb
      clear hb q0 q1 q2 y0 HBN CK2 HRW HSN
      go_upto_region 14 with fail
      obtain ⟨V9, hV9⟩ : ∃ X, X = V8.alloc (.cells #[.int .i64 sw.x, .int .i64 sw.y, .int .i64 sw.z] 23) := ⟨_, rfl⟩
      obtain ⟨sb, hsb⟩ : ∃ x, x = V8.heap.size := ⟨_, rfl⟩
      have kb : Below V8.heap.size V8 V9 := by rw [hV9]; exact n_after _ _
      have CS : Hid (CW V9 sb [.int .i64 sw.x, .int .i64 sw.y, .int .i64 sw.z]) := by show CW _ _ _; rw [hV9, hsb]; exact CW.new V8 [.int .i64 sw.x, .int .i64 sw.y, .int .i64 sw.z] 23
      rw [← hV9, ← hsb]
      have HC9 : Hid (CW V9 pc _ ∧ CW V9 pr _) := ⟨HM3.out.1.step (b_step HBN8.out kb), HM3.out.2.2.1.step (b_step HBN8.out kb)⟩
      have HBN9 : Hid (Below V3.heap.size V3 V9) := b_step HBN8.out kb
      have CK9 : Hid (CW _ _ _) := CK8.out.step kb
      have HR9 : Hid (V9.ownsRow (ob + 1) 23 3 (.slice ou M.length cu) M.length (fl3 M)) := own_below HR8.out kb
      have HLE9 : Hid _ := HLE.out.below (b_step HB3.out.1 HBN9.out)
      have HSB : Hid (V3.heap.size ≤ sb ∧ sb < V9.heap.size) := by have h9 := CW.lt CS.out; have h8 := HBN8.out.size; show _ ∧ _; rw [hsb]; rw [hsb] at h9; exact ⟨h8, h9⟩
      have HNE : Hid (ob < sb) := by have h9 := CW.lt CK8.out; show _ < _; rw [hsb]; exact h9
      clear hV9 hsb kb HBN8 CK8 HR8
      obtain ⟨n0, hn0⟩ : ∃ x, x = V9.heap.size := ⟨_, rfl⟩
      have HN0 : Hid _ := hn0
      have HK9 : Hid (CK V9 V9 n0 [] (.slice none 0 0) [] (.slice none 0 0) []) := by rw [hn0]; exact ⟨Below.refl _ _, (fun p hp => by cases hp), Nat.le_refl _, Nat.le_refl _, World.ownsRow_nil _ _ _ _, World.ownsRow_nil _ _ _ _, fun k e => by cases e⟩
      clear hn0
      go_wp2_with (fail)
      go_loopg [14, 15] co.E.length (fun gm s14 s15 wr => ∃ (i : Nat) (N : List Pt) (o : Option Addr) (c : Nat), s14 = .slice o N.length c ∧ s15 = .int .i64 (i : Int) ∧ i ≤ co.E.length ∧ N.length ≤ i ∧ Hid (gm = co.E.length - i) ∧ Hid (CK V9 wr n0 [] (.slice o N.length c) N (.slice none 0 0) []) ∧ Hid (N = (co.E.take i).map (fun e => (e.cross sw).short)))
      case atStart => exact ⟨0, [], none, 0, rfl, rfl, Nat.zero_le _, Nat.le_refl _, rfl, HK9.out, by show _ = _; simp⟩
      case round =>
        obtain ⟨i, N, o, c, rfl, rfl, hi9, hN9, HG2, HK, HE⟩ := hrel
        have qa := c_after HK.out.below (HC9.out.1 2 _ rfl).1
        by_cases hit : i < co.E.length
        · have hN8 : N.length ≤ 128 := by have := HGL.out; omega
          obtain ⟨o', cap', e', _, _, hcl⟩ := HLE9.out.form
          cases e'
          obtain ⟨g3, f3, rfl, x0, x1, x2⟩ := hcl i hit
          have x0 := c_after HK.out.below x0
          have x1 := c_after HK.out.below x1
          have x2 := c_after HK.out.below x2
          have y0 := c_after HK.out.below (CS.out 0 _ rfl).1
          have y1 := c_after HK.out.below (CS.out 1 _ rfl).1
          have y2 := c_after HK.out.below (CS.out 2 _ rfl).1
          have htn := take_next (f := fun e : Pt => (e.cross sw).short) hit
          have HX0 : Hid _ := fun w' => HCR.out (pt co.E i) sw w' (inB_mono (HEB.out _ (pt_mem hit)) (by decide)) (inB_mono HSWB.out (by decide))
          obtain ⟨pe, hpe⟩ : ∃ x, pt co.E i = x := ⟨_, rfl⟩
          rw [hpe] at x0 x1 x2 htn HX0
          obtain ⟨nc, hnc⟩ : ∃ x, pe.cross sw = x := ⟨_, rfl⟩
          rw [hnc] at HX0
          obtain ⟨np, hnp⟩ : ∃ x, nc.short = x := ⟨_, rfl⟩
          have HSX : Hid _ := fun w' => HSH.out nc w'
          rw [hnp] at HSX
          have HXX : Hid _ := HX0.out
          have HNX : Hid (N ++ [np] = (co.E.take (i + 1)).map (fun e => (e.cross sw).short)) := by show _ = _; rw [← htn, ← HE.out, hnc, hnp]
          clear hcl hpe hnc hnp htn HX0 HE
          go_upto_region 18 with fail
          refine RV.region_by (fun j v w => match j with | 0 => v = .slice o N.length c | 1 => v = .pointer (some ⟨pc, 2, none⟩) | 2 => v = .slice (some ⟨g3, f3, none⟩) co.E.length c3 | 3 => v = .int .i64 (i : Int) | 4 => v = .pointer (some ⟨g3, f3 + i * 3, none⟩) | 5 => v = .agg #[.int .i64 pe.x, .int .i64 pe.y, .int .i64 pe.z] | 6 => v = .agg #[.int .i64 sw.x, .int .i64 sw.y, .int .i64 sw.z] | 7 => v = .agg #[.int .i64 nc.x, .int .i64 nc.y, .int .i64 nc.z] | 8 => v = .agg #[.int .i64 np.x, .int .i64 np.y, .int .i64 np.z] | 9 => True | 10 => True | 11 => True | _ => True) (fun γ L w => A10 9 10 11 wr n0 (.slice o N.length c) N.length (fl3 N) [.int .i64 np.x, .int .i64 np.y, .int .i64 np.z] γ L w) (by kernel_rfl) (by kernel_rfl) (by kernel_rfl) (by kernel_rfl) ?_ ?_ ?_
          · exact A10.start rfl rfl rfl (Below.refl _ wr).drew
          · generalize hD : dstOf _ = D
            generalize hWA : waitsFor _ = WA
            generalize hZ : Act.mk _ _ = Z
            obtain ⟨R, hR⟩ : ∃ R : Nat → Value → World → Prop, R = (fun j v w => match j with | 0 => v = .slice o N.length c | 1 => v = .pointer (some ⟨pc, 2, none⟩) | 2 => v = .slice (some ⟨g3, f3, none⟩) co.E.length c3 | 3 => v = .int .i64 (i : Int) | 4 => v = .pointer (some ⟨g3, f3 + i * 3, none⟩) | 5 => v = .agg #[.int .i64 pe.x, .int .i64 pe.y, .int .i64 pe.z] | 6 => v = .agg #[.int .i64 sw.x, .int .i64 sw.y, .int .i64 sw.z] | 7 => v = .agg #[.int .i64 nc.x, .int .i64 nc.y, .int .i64 nc.z] | 8 => v = .agg #[.int .i64 np.x, .int .i64 np.y, .int .i64 np.z] | 9 => True | 10 => True | 11 => True | _ => True) := ⟨_, rfl⟩
            rw [← hR]
            have d0 : D 0 = some 108 := by rw [← hD]; rfl
            have d1 : D 1 = some 109 := by rw [← hD]; rfl
            have d2 : D 2 = some 110 := by rw [← hD]; rfl
            have d3 : D 3 = some 111 := by rw [← hD]; rfl
            have d4 : D 4 = some 112 := by rw [← hD]; rfl
            have d5 : D 5 = some 113 := by rw [← hD]; rfl
            have d6 : D 6 = some 114 := by rw [← hD]; rfl
            have d7 : D 7 = some 115 := by rw [← hD]; rfl
            have d8 : D 8 = some 116 := by rw [← hD]; rfl
            have d9 : D 9 = some 117 := by rw [← hD]; rfl
            have d10 : D 10 = some 118 := by rw [← hD]; rfl
            have d11 : D 11 = some 14 := by rw [← hD]; rfl
            have r0 : ∀ v w, R 0 v w = (v = .slice o N.length c) := fun v w => by rw [hR]; rfl
            have r1 : ∀ v w, R 1 v w = (v = .pointer (some ⟨pc, 2, none⟩)) := fun v w => by rw [hR]; rfl
            have r2 : ∀ v w, R 2 v w = (v = .slice (some ⟨g3, f3, none⟩) co.E.length c3) := fun v w => by rw [hR]; rfl
            have r3 : ∀ v w, R 3 v w = (v = .int .i64 (i : Int)) := fun v w => by rw [hR]; rfl
            have r4 : ∀ v w, R 4 v w = (v = .pointer (some ⟨g3, f3 + i * 3, none⟩)) := fun v w => by rw [hR]; rfl
            have r5 : ∀ v w, R 5 v w = (v = .agg #[.int .i64 pe.x, .int .i64 pe.y, .int .i64 pe.z]) := fun v w => by rw [hR]; rfl
            have r6 : ∀ v w, R 6 v w = (v = .agg #[.int .i64 sw.x, .int .i64 sw.y, .int .i64 sw.z]) := fun v w => by rw [hR]; rfl
            have r7 : ∀ v w, R 7 v w = (v = .agg #[.int .i64 nc.x, .int .i64 nc.y, .int .i64 nc.z]) := fun v w => by rw [hR]; rfl
            have r8 : ∀ v w, R 8 v w = (v = .agg #[.int .i64 np.x, .int .i64 np.y, .int .i64 np.z]) := fun v w => by rw [hR]; rfl
            have r9 : ∀ v w, R 9 v w = (True) := fun v w => by rw [hR]; rfl
            have r10 : ∀ v w, R 10 v w = (True) := fun v w => by rw [hR]; rfl
            have r11 : ∀ v w, R 11 v w = (True) := fun v w => by rw [hR]; rfl
            have X14 : ∀ j, D j = some 14 → j = 11 := fun j hj => by rw [← hD] at hj; exact dst_once (by kernel_rfl) hj rfl
            have Y14 : Z.tmps[14]? = some (.slice o N.length c) := by rw [← hZ]; rfl
            have LA_11_0 : WA 11 0 := by rw [← hWA]; exact ⟨_, rfl, ⟨0, .phase⟩, by simp, rfl, rfl⟩
            have E3 : ∀ (γ : Nat → Value) (L : Nat → Bool) (a : Act) (w : World), RV.Held D WA R (fun γ L w => A10 9 10 11 wr n0 (.slice o N.length c) N.length (fl3 N) [.int .i64 np.x, .int .i64 np.y, .int .i64 np.z] γ L w) Z γ L a w → a.tmps[3]? = some (.pointer (some ⟨pc, 0, none⟩)) := fun γ L a w hH => (hH.rest 3 (by rw [← hD]; exact RV.dst_free (by kernel_rfl))).trans (by rw [← hZ]; rfl)
            have E13 : ∀ (γ : Nat → Value) (L : Nat → Bool) (a : Act) (w : World), RV.Held D WA R (fun γ L w => A10 9 10 11 wr n0 (.slice o N.length c) N.length (fl3 N) [.int .i64 np.x, .int .i64 np.y, .int .i64 np.z] γ L w) Z γ L a w → a.tmps[13]? = some (.pointer (some ⟨sb, 0, none⟩)) := fun γ L a w hH => (hH.rest 13 (by rw [← hD]; exact RV.dst_free (by kernel_rfl))).trans (by rw [← hZ]; rfl)
            have E15 : ∀ (γ : Nat → Value) (L : Nat → Bool) (a : Act) (w : World), RV.Held D WA R (fun γ L w => A10 9 10 11 wr n0 (.slice o N.length c) N.length (fl3 N) [.int .i64 np.x, .int .i64 np.y, .int .i64 np.z] γ L w) Z γ L a w → a.tmps[15]? = some (.int .i64 (i : Int)) := fun γ L a w hH => (hH.rest 15 (by rw [← hD]; exact RV.dst_free (by kernel_rfl))).trans (by rw [← hZ]; rfl)
            have K : ∀ j v w w', R j v w → R j v w' := by rw [hR]; intro j v w w' h; exact h
            have A_10_0 : WA 10 0 := by rw [← hWA]; exact ⟨_, rfl, ⟨0, .data⟩, by simp, rfl, rfl⟩
            have A_2_1 : WA 2 1 := by rw [← hWA]; exact ⟨_, rfl, ⟨1, .data⟩, by simp, rfl, rfl⟩
            have A_4_2 : WA 4 2 := by rw [← hWA]; exact ⟨_, rfl, ⟨2, .data⟩, by simp, rfl, rfl⟩
            have A_4_3 : WA 4 3 := by rw [← hWA]; exact ⟨_, rfl, ⟨3, .data⟩, by simp, rfl, rfl⟩
            have A_5_4 : WA 5 4 := by rw [← hWA]; exact ⟨_, rfl, ⟨4, .data⟩, by simp, rfl, rfl⟩
            have A_7_5 : WA 7 5 := by rw [← hWA]; exact ⟨_, rfl, ⟨5, .data⟩, by simp, rfl, rfl⟩
            have A_7_6 : WA 7 6 := by rw [← hWA]; exact ⟨_, rfl, ⟨6, .data⟩, by simp, rfl, rfl⟩
            have A_8_7 : WA 8 7 := by rw [← hWA]; exact ⟨_, rfl, ⟨7, .data⟩, by simp, rfl, rfl⟩
            have A_9_8 : WA 9 8 := by rw [← hWA]; exact ⟨_, rfl, ⟨8, .data⟩, by simp, rfl, rfl⟩
            have A_10_9 : WA 10 9 := by rw [← hWA]; exact ⟨_, rfl, ⟨9, .data⟩, by simp, rfl, rfl⟩
            have A_11_10 : WA 11 10 := by rw [← hWA]; exact ⟨_, rfl, ⟨10, .data⟩, by simp, rfl, rfl⟩
            clear hD hWA hZ hR
            refine RV.AllDo.cons 0 (RV.does_pure (fun γ v L w hl h => A10.other h _ (by decide) (by decide) (by decide)) (fun γ L a w hH hl hA => by have e0 := (hH.early 14 (fun j hj => by rw [X14 j hj]; exact RV.not_yet hH LA_11_0 hl)).trans Y14; exact ⟨.slice o N.length c, by simp [execOp, go_sem, e0], (r0 _ _).mpr rfl⟩)) ?_
            refine RV.AllDo.cons 1 (RV.does_pure (fun γ v L w hl h => A10.other h _ (by decide) (by decide) (by decide)) (fun γ L a w hH hl hA => by have e0 := E3 γ L a w hH; exact ⟨.pointer (some ⟨pc, 2, none⟩), by simp [execOp, go_sem, e0], (r1 _ _).mpr rfl⟩)) ?_
            refine RV.AllDo.cons 2 (RV.does_pure (fun γ v L w hl h => A10.other h _ (by decide) (by decide) (by decide)) (fun γ L a w hH hl hA => by have l0 : L 1 = true := hA ⟨1, .data⟩ (by simp) rfl; have e0 := hH.slot 1 109 d1 l0; have g0 := hH.holds 1 l0; rw [r1] at g0; rw [g0] at e0; have z09 := c_after (A10.early hH.glob (RV.not_yet hH A_10_9 (RV.not_yet hH A_9_8 (RV.not_yet hH A_8_7 (RV.not_yet hH A_7_5 (RV.not_yet hH A_5_4 (RV.not_yet hH A_4_2 hl))))))).1 qa; exact ⟨.slice (some ⟨g3, f3, none⟩) co.E.length c3, by simp [execOp, go_sem, e0, z09], (r2 _ _).mpr rfl⟩)) ?_
            refine RV.AllDo.cons 3 (RV.does_pure (fun γ v L w hl h => A10.other h _ (by decide) (by decide) (by decide)) (fun γ L a w hH hl hA => by have e0 := E15 γ L a w hH; exact ⟨.int .i64 (i : Int), by simp [execOp, go_sem, e0], (r3 _ _).mpr rfl⟩)) ?_
            refine RV.AllDo.cons 4 (RV.does_pure (fun γ v L w hl h => A10.other h _ (by decide) (by decide) (by decide)) (fun γ L a w hH hl hA => by have l0 : L 2 = true := hA ⟨2, .data⟩ (by simp) rfl; have e0 := hH.slot 2 110 d2 l0; have g0 := hH.holds 2 l0; rw [r2] at g0; rw [g0] at e0; have l1 : L 3 = true := hA ⟨3, .data⟩ (by simp) rfl; have e1 := hH.slot 3 111 d3 l1; have g1 := hH.holds 3 l1; rw [r3] at g1; rw [g1] at e1; exact ⟨.pointer (some ⟨g3, f3 + i * 3, none⟩), by simp [execOp, go_sem, e0, e1, hit], (r4 _ _).mpr rfl⟩)) ?_
            refine RV.AllDo.cons 5 (RV.does_pure (fun γ v L w hl h => A10.other h _ (by decide) (by decide) (by decide)) (fun γ L a w hH hl hA => by have l0 : L 4 = true := hA ⟨4, .data⟩ (by simp) rfl; have e0 := hH.slot 4 112 d4 l0; have g0 := hH.holds 4 l0; rw [r4] at g0; rw [g0] at e0; have z09 := c_after (A10.early hH.glob (RV.not_yet hH A_10_9 (RV.not_yet hH A_9_8 (RV.not_yet hH A_8_7 (RV.not_yet hH A_7_5 hl))))).1 x0; have z19 := c_after (A10.early hH.glob (RV.not_yet hH A_10_9 (RV.not_yet hH A_9_8 (RV.not_yet hH A_8_7 (RV.not_yet hH A_7_5 hl))))).1 x1; have z29 := c_after (A10.early hH.glob (RV.not_yet hH A_10_9 (RV.not_yet hH A_9_8 (RV.not_yet hH A_8_7 (RV.not_yet hH A_7_5 hl))))).1 x2; exact ⟨.agg #[.int .i64 pe.x, .int .i64 pe.y, .int .i64 pe.z], by simp [execOp, go_sem, e0, z09, z19, z29], (r5 _ _).mpr rfl⟩)) ?_
            refine RV.AllDo.cons 6 (RV.does_pure (fun γ v L w hl h => A10.other h _ (by decide) (by decide) (by decide)) (fun γ L a w hH hl hA => by have e0 := E13 γ L a w hH; have z09 := c_after (A10.early hH.glob (RV.not_yet hH A_10_9 (RV.not_yet hH A_9_8 (RV.not_yet hH A_8_7 (RV.not_yet hH A_7_6 hl))))).1 y0; have z19 := c_after (A10.early hH.glob (RV.not_yet hH A_10_9 (RV.not_yet hH A_9_8 (RV.not_yet hH A_8_7 (RV.not_yet hH A_7_6 hl))))).1 y1; have z29 := c_after (A10.early hH.glob (RV.not_yet hH A_10_9 (RV.not_yet hH A_9_8 (RV.not_yet hH A_8_7 (RV.not_yet hH A_7_6 hl))))).1 y2; exact ⟨.agg #[.int .i64 sw.x, .int .i64 sw.y, .int .i64 sw.z], by simp [execOp, go_sem, e0, z09, z19, z29], (r6 _ _).mpr rfl⟩)) ?_
            refine RV.AllDo.cons 7 (RV.does_call (fun γ L a w hH hl hA => by have l0 : L 5 = true := hA ⟨5, .data⟩ (by simp) rfl; have e0 := hH.slot 5 113 d5 l0; have g0 := hH.holds 5 l0; rw [r5] at g0; rw [g0] at e0; have l1 : L 6 = true := hA ⟨6, .data⟩ (by simp) rfl; have e1 := hH.slot 6 114 d6 l1; have g1 := hH.holds 6 l1; rw [r6] at g1; rw [g1] at e1; have q9 : L 10 = false := (RV.not_yet hH A_10_9 (RV.not_yet hH A_9_8 (RV.not_yet hH A_8_7 hl))); exact ⟨75, #[.agg #[.int .i64 pe.x, .int .i64 pe.y, .int .i64 pe.z], .agg #[.int .i64 sw.x, .int .i64 sw.y, .int .i64 sw.z]], by simp [go_sem, e0, e1], Calls.mono (HXX.out w) (by rintro e w2 ⟨rfl, hb⟩; exact ⟨_, rfl, (r7 _ _).mpr rfl, fun j v _ h => K j v _ _ h, A10.call hH.glob q9 hb _ (by decide) (by decide) (by decide)⟩)⟩)) ?_
            refine RV.AllDo.cons 8 (RV.does_call (fun γ L a w hH hl hA => by have l0 : L 7 = true := hA ⟨7, .data⟩ (by simp) rfl; have e0 := hH.slot 7 115 d7 l0; have g0 := hH.holds 7 l0; rw [r7] at g0; rw [g0] at e0; have q9 : L 10 = false := (RV.not_yet hH A_10_9 (RV.not_yet hH A_9_8 hl)); exact ⟨74, #[.agg #[.int .i64 nc.x, .int .i64 nc.y, .int .i64 nc.z]], by simp [go_sem, e0], Calls.mono (HSX.out w) (by rintro e w2 ⟨rfl, hb⟩; exact ⟨_, rfl, (r8 _ _).mpr rfl, fun j v _ h => K j v _ _ h, A10.call hH.glob q9 hb _ (by decide) (by decide) (by decide)⟩)⟩)) ?_
            refine RV.AllDo.cons 9 (RV.does_step (fun γ L a w hH hl hA => by have l0 : L 8 = true := hA ⟨8, .data⟩ (by simp) rfl; have e0 := hH.slot 8 116 d8 l0; have g0 := hH.holds 8 l0; rw [r8] at g0; rw [g0] at e0; exact ⟨.slice (some ⟨w.heap.size, 0, none⟩) 1 1, w.alloc (.cells #[.int .i64 np.x, .int .i64 np.y, .int .i64 np.z] 23), by simp [execOp, go_sem, e0], (r9 _ _).mpr trivial, fun j v _ h => K j v _ _ h, A10.lay hH.glob (RV.not_yet hH A_10_9 hl) (by decide) (by decide)⟩)) ?_
            refine RV.AllDo.cons 10 (RV.does_step (fun γ L a w hH hl hA => by have l0 : L 0 = true := hA ⟨0, .data⟩ (by simp) rfl; have e0 := hH.slot 0 108 d0 l0; have g0 := hH.holds 0 l0; rw [r0] at g0; rw [g0] at e0; have l1 : L 9 = true := hA ⟨9, .data⟩ (by simp) rfl; have e1 := hH.slot 9 117 d9 l1; have g1 := hH.holds 9 l1; rw [r9] at g1; obtain ⟨y2, y3⟩ := A10.early hH.glob hl; obtain ⟨g9, t1, t2⟩ := y3 l1; rw [t1] at e1; have q9 : L 11 = false := RV.not_yet hH A_11_10 hl; obtain ⟨v9, w9, t3, t4, t5⟩ := exec_append (P := Tryz.prog) (w := w) (a := a) (.tmp 108) (.tmp 117) 24 24 n0 23 i0 _ 3 24 Tryz.underlying24 HI.out.1 HI.out.2.1 HI.out.2.2.1 HI.out.2.2.2 rfl (by decide) (.slice o N.length c) N.length (fl3 N) (by simp [go_sem, e0]) (own_below HK.out.own y2) ⟨g9, 0, none⟩ 1 1 [.int .i64 np.x, .int .i64 np.y, .int .i64 np.z] (by simp [go_sem, e1]) rfl (news_at t2) (by intro u hu; simp at hu; rcases hu with rfl | rfl | rfl <;> rfl) (by unfold maxLen; omega) (by omega) (Nat.le_trans HK.out.hx y2.size); exact ⟨v9, w9, t3 _ rfl rfl, (r10 _ _).mpr trivial, fun j v _ h => K j v _ _ h, A10.app q9 (by decide) t4 ((Grew.below y2 _).trans t5)⟩)) ?_
            refine RV.AllDo.cons 11 (RV.does_step (fun γ L a w hH hl hA => by have l0 : L 10 = true := hA ⟨10, .data⟩ (by simp) rfl; have e0 := hH.slot 10 118 d10 l0; have g0 := hH.holds 10 l0; rw [r10] at g0; exact ⟨γ 10, w, by simp [execOp, go_sem, e0], (r11 _ _).mpr trivial, fun j v _ h => h, A10.set hH.glob (by decide) (by decide)⟩)) ?_
            exact RV.AllDo.nil
          · intro γ a5 w5 L9 hL hLo hH
            have ha := RV.held_act hH hL (by kernel_rfl) (by kernel_rfl)
            obtain ⟨y3, y1, y2⟩ := A10.done hH.glob (hL 10 (by decide)) (hL 11 (by decide))
            rw [ha]
            clear ha hH hL hLo
            simp only [RV.putAll, Act.put, List.setIfInBounds_toArray, List.set_cons_zero, List.set_cons_succ, Nat.zero_add, Nat.reduceAdd]
            rw [y3]
            have HK2 : Hid _ := HK.out.app np y1 y2
            clear y1 y2 y3 HK
            generalize γ 10 = u9 at *
            obtain ⟨o9, c9, rfl⟩ := rowp_form HK2.out.own
            clear x0 x1 x2 y0 y1 y2 qa HXX HSX
            go_wp2_with (fail)
            go_roundg (co.E.length - (i + 1))
            case measure => have := HG2.out; omega
            case rel => exact ⟨i + 1, N ++ [np], o9, c9, rfl, by go_num, by omega, by rw [List.length_append]; simp; omega, rfl, HK2, HNX⟩
        · obtain rfl : i = co.E.length := by omega
          have hNN : N = co.E.map (fun e => (e.cross sw).short) := by rw [HE.out, List.take_length]
          have HNN : Hid _ := hNN
          clear hNN HE HG2
          have qb := c_after HK.out.below (HC9.out.1 1 _ rfl).1
          have HLA9 : Hid _ := HLA.out.below (b_step (b_step HB3.out.1 HBN9.out) HK.out.below)
          have HLN : Hid _ := Lies.of_row HK.out.own
          have hll : co.A.length + N.length < 1099511627776 := by have := HGL.out; omega
          have HLL : Hid _ := hll
          have HOW : Hid (ob < wr.heap.size) := Nat.lt_of_lt_of_le (Nat.lt_trans HNE.out HSB.out.2) HK.out.below.size
          have HKB : Hid (Below V9.heap.size V9 wr) := HK.out.below
          clear hll HK
          go_wp2_with (fail)
          refine Calls.mono (rwith11_any co.A N _ _ wr HLA9.out HLN.out HLL.out) ?_
          rintro e VA ⟨uA, rfl, hk⟩
          obtain ⟨hr, hb⟩ := hk.out
          obtain ⟨KA, hKA⟩ : ∃ x, x = keepD (co.A ++ N) := ⟨_, rfl⟩
          rw [← hKA] at hr
          have HKA : Hid (KA = keepD (co.A ++ co.E.map (fun e => (e.cross sw).short))) := by show _ = _; rw [hKA, HNN.out]
          obtain ⟨oA, cA, rfl⟩ := rowp_form hr
          have HRA : Hid _ := hr
          have HBA : Hid (Below V9.heap.size V9 VA) := b_step HKB.out hb
          have COA : Hid (CW _ _ _) := (CK9.out.step HKB.out).step hb
          obtain ⟨k1, kf1⟩ := COA.out 1 _ rfl
          clear hk hr hb hKA qa qb HLA9 HLN HLL
          go_upto_region 20 with fail
          obtain ⟨VB, hVB⟩ : ∃ X, X = VA.setCell ⟨ob, 1, none⟩ (.slice oA KA.length cA) := ⟨_, rfl⟩
          have COB : Hid (CW VB ob [.slice ou M.length cu, .slice oA KA.length cA, .slice none 0 0, .int .i64 co.r]) := by rw [hVB]; exact CW.set COA.out 1 _ (by simp)
          have HRM : Hid (VB.ownsRow (ob + 1) 23 3 (.slice ou M.length cu) M.length (fl3 M)) := by rw [hVB]; exact ownsRow_setCell_below (own_below HR9.out HBA.out) (a := ⟨ob, 1, none⟩) (Nat.lt_succ_self _) _
          have HRA : Hid (VB.ownsRow wr.heap.size 23 3 (.slice oA KA.length cA) KA.length (fl3 KA)) := by rw [hVB]; exact ownsRow_setCell_below HRA.out (a := ⟨ob, 1, none⟩) HOW.out _
          have HBB3 : Hid (Below V3.heap.size V3 VB) := by rw [hVB]; exact (b_step HBN9.out HBA.out).setCell HOB.out.1 _
          have CSB : Hid (CW VB sb [.int .i64 sw.x, .int .i64 sw.y, .int .i64 sw.z]) := by rw [hVB]; exact (CS.out.step HBA.out).other (a := ⟨ob, 1, none⟩) (Nat.ne_of_lt HNE.out) _
          rw [← hVB]
          clear hVB k1 kf1 COA
          have qa := c_after HBB3.out (HM3.out.1 2 _ rfl).1
          have y0 := (CSB.out 0 _ rfl).1
          have y1 := (CSB.out 1 _ rfl).1
          have y2 := (CSB.out 2 _ rfl).1
          go_wp2_with (fail)
          obtain ⟨VC, hVC⟩ : ∃ X, X = VB.alloc (.cells #[.int .i64 sw.x, .int .i64 sw.y, .int .i64 sw.z] 23) := ⟨_, rfl⟩
          obtain ⟨lb, hlb⟩ : ∃ x, x = VB.heap.size := ⟨_, rfl⟩
          have kb : Below VB.heap.size VB VC := by rw [hVC]; exact n_after _ _
          have CL : Hid (CW VC lb [.int .i64 sw.x, .int .i64 sw.y, .int .i64 sw.z]) := by show CW _ _ _; rw [hVC, hlb]; exact CW.new VB [.int .i64 sw.x, .int .i64 sw.y, .int .i64 sw.z] 23
          rw [← hVC, ← hlb]
          have HLE2 : Hid _ := HLE.out.below (b_step (b_step HB3.out.1 HBB3.out) kb)
          have HL1 : Hid (Lies VC (.slice (some ⟨lb, 0, none⟩) 1 1) [sw]) := lies_one9 fun j v e => (CL.out j v e).1
          have HBC : Hid (Below V3.heap.size V3 VC) := b_step HBB3.out kb
          have COC : Hid (CW _ _ _) := COB.out.step kb
          have HRM2 : Hid (VC.ownsRow (ob + 1) 23 3 (.slice ou M.length cu) M.length (fl3 M)) := own_below HRM.out kb
          have HRA2 : Hid (VC.ownsRow wr.heap.size 23 3 (.slice oA KA.length cA) KA.length (fl3 KA)) := own_below HRA.out kb
          have HOC : Hid (ob < VC.heap.size) := CW.lt COC.out
          clear kb hVC hlb qa y0 y1 y2 COB HRM HRA
          have hll : co.E.length + [sw].length < 1099511627776 := by have := HGL.out; simp; omega
          refine Calls.mono (rwith11_any co.E [sw] _ _ VC HLE2.out HL1.out hll) ?_
          rintro e VD ⟨uE, rfl, hk⟩
          obtain ⟨hr, hb⟩ := hk.out
          obtain ⟨KE, hKE⟩ : ∃ x, x = keepD (co.E ++ [sw]) := ⟨_, rfl⟩
          rw [← hKE] at hr
          have HKE : Hid _ := hKE
          obtain ⟨oE, cE, rfl⟩ := rowp_form hr
          have COD : Hid (CW _ _ _) := COC.out.step hb
          have HBD : Hid (Below V3.heap.size V3 VD) := b_step HBC.out hb
          have HRM3 : Hid (VD.ownsRow (ob + 1) 23 3 (.slice ou M.length cu) M.length (fl3 M)) := own_below HRM2.out hb
          have HRA3 : Hid (VD.ownsRow wr.heap.size 23 3 (.slice oA KA.length cA) KA.length (fl3 KA)) := own_below HRA2.out hb
          have HRE3 : Hid (VD.ownsRow VC.heap.size 23 3 (.slice oE KE.length cE) KE.length (fl3 KE)) := hr
          obtain ⟨k2, kf2⟩ := COD.out 2 _ rfl
          clear hk hr hb hKE hll HLE2 HL1 COC HRM2 HRA2
          go_upto_region 21 with fail
          obtain ⟨VE, hVE⟩ : ∃ X, X = VD.setCell ⟨ob, 2, none⟩ (.slice oE KE.length cE) := ⟨_, rfl⟩
          have COE : Hid (CW VE ob [.slice ou M.length cu, .slice oA KA.length cA, .slice oE KE.length cE, .int .i64 co.r]) := by rw [hVE]; exact CW.set COD.out 2 _ (by simp)
          have HRM : Hid (VE.ownsRow (ob + 1) 23 3 (.slice ou M.length cu) M.length (fl3 M)) := by rw [hVE]; exact ownsRow_setCell_below HRM3.out (a := ⟨ob, 2, none⟩) (Nat.lt_succ_self _) _
          have HRA : Hid (VE.ownsRow wr.heap.size 23 3 (.slice oA KA.length cA) KA.length (fl3 KA)) := by rw [hVE]; exact ownsRow_setCell_below HRA3.out (a := ⟨ob, 2, none⟩) HOW.out _
          have HRE : Hid (VE.ownsRow VC.heap.size 23 3 (.slice oE KE.length cE) KE.length (fl3 KE)) := by rw [hVE]; exact ownsRow_setCell_below HRE3.out (a := ⟨ob, 2, none⟩) HOC.out _
          have HBE : Hid (Below V3.heap.size V3 VE) := by rw [hVE]; exact HBD.out.setCell HOB.out.1 _
          rw [← hVE]
          clear hVE k2 kf2 COD HRM3 HRA3 HRE3 HBD
          have CRE : Hid (CW _ _ _) := HM3.out.2.2.1.step HBE.out
          have k0 := (COE.out 0 _ rfl).1
          have k1 := (COE.out 1 _ rfl).1
          have k2 := (COE.out 2 _ rfl).1
          have k3 := (COE.out 3 _ rfl).1
          obtain ⟨r0, rf0⟩ := CRE.out 0 _ rfl
          obtain ⟨r1, rf1⟩ := CRE.out 1 _ rfl
          obtain ⟨r2, rf2⟩ := CRE.out 2 _ rfl
          obtain ⟨r3, rf3⟩ := CRE.out 3 _ rfl
          have HPR : Hid (pr < ob + 1 ∧ pr < wr.heap.size ∧ pr < VC.heap.size ∧ w0.heap.size ≤ pr) := by have h9 := CW.lt HM3.out.2.2.1; have h8 := HOB.out.1; have h7 := HOW.out; have h6 := HOC.out; have h5 := HPX.out.2.2; show _ ∧ _ ∧ _ ∧ _; omega
          have e9 : ∀ (base : Nat) (u : Value) (n : Nat) (xs : List Value), VE.ownsRow base 23 3 u n xs → pr < base → ((((VE.setCell ⟨pr, 0, none⟩ (.slice ou M.length cu)).setCell ⟨pr, 1, none⟩ (.slice oA KA.length cA)).setCell ⟨pr, 2, none⟩ (.slice oE KE.length cE)).setCell ⟨pr, 3, none⟩ (.int .i64 co.r)).ownsRow base 23 3 u n xs := fun base u n xs h hlt => ownsRow_setCell_below (ownsRow_setCell_below (ownsRow_setCell_below (ownsRow_setCell_below h (a := ⟨pr, 0, none⟩) hlt _) (a := ⟨pr, 1, none⟩) hlt _) (a := ⟨pr, 2, none⟩) hlt _) (a := ⟨pr, 3, none⟩) hlt _
          have FIN : Hid (Own3 w0 ((((VE.setCell ⟨pr, 0, none⟩ (.slice ou M.length cu)).setCell ⟨pr, 1, none⟩ (.slice oA KA.length cA)).setCell ⟨pr, 2, none⟩ (.slice oE KE.length cE)).setCell ⟨pr, 3, none⟩ (.int .i64 co.r)) (.slice ou M.length cu) (.slice oA KA.length cA) (.slice oE KE.length cE) M KA KE) := by
            obtain ⟨q1, q2, q3, q4⟩ := HPR.out
            exact ⟨own_le (e9 _ _ _ _ HRM.out q1) (by omega), own_le (e9 _ _ _ _ HRA.out q2) (by omega), own_le (e9 _ _ _ _ HRE.out q3) (by omega), ((((b_step HB3.out.1 HBE.out).setCell q4 _).setCell q4 _).setCell q4 _).setCell q4 _⟩
          clear e9
          go_wp2_with (fail)
          rw [HSWE.out, ← HMM.out, ← HKA.out, ← HKE.out]
          exact bodyPost_ret (v := .agg #[.slice ou M.length cu, .slice oA KA.length cA, .slice oE KE.length cE, .int .i64 co.r]) (by simp [results, Tryz.results26, go_sem, r0, r1, r2, r3]) rfl ⟨_, _, _, rfl, FIN.out⟩
end Go.Proofs.YtbhdfjoagajipaaGreat
