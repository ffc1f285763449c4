/- Shapes are checked, and have cores and masses, as the document says: any shape, any mass; what is handed in stays, what comes out may be written over. -/
import Derived.Test.YtiicpdlaaklahaaShM
import Derived.Test.YtiicpdlaaklahaaRShK
import Derived.Test.YtiicpdlaaklahaaOpenT
import Derived.Laws.AppendOwnNone
import Derived.Test.YtiicpdlaaklahaaRows
import Derived.ProofKit
import Derived.OpenShut
namespace Go.Proofs.Ytiicpdlaaklahaa
open Go.RowKit Go.Shelf
set_option linter.unusedVariables false

theorem core_both (s : Sh) : ∃ (Pl A E : List Pt) (rd er : Int), er = checkP s ∧
    (∀ (w : World) (pv : Value), Lies w pv s.pts → Calls Try.prog 11 #[s.v pv] w fun e W => ∃ vp va ve, e = .returned (.tuple #[.agg #[vp, va, ve, .int .i64 rd], .int .i64 er]) ∧ Three w W vp va ve Pl A E) ∧
    (∀ (w : World) (pv : Value), Lies w pv s.pts → Calls Try.prog 12 #[s.v pv] w fun e W => ∃ vp va ve, e = .returned (.tuple #[.agg #[vp, va, ve, .int .i64 rd], .int .i64 er]) ∧ Three w W vp va ve Pl A E) := by
  by_cases h : checkP s = 0
  · refine ⟨ptsP s, axesP s, edgesP s, s.radius, 0, h.symm, fun w pv hv => (core_any s pv w hv).mono ?_, fun w pv hv => (rcore_any s pv w hv).mono ?_⟩
    · rintro e W ⟨vp, va, ve, _, h2⟩; exact ⟨vp, va, ve, h2 h⟩
    · rintro e W ⟨vp, va, ve, _, h2⟩; exact ⟨vp, va, ve, h2 h⟩
  · refine ⟨[], [], [], 0, checkP s, rfl, fun w pv hv => (core_any s pv w hv).mono ?_, fun w pv hv => (rcore_any s pv w hv).mono ?_⟩
    · rintro e W ⟨vp, va, ve, h1, _⟩; exact ⟨vp, va, ve, h1 h⟩
    · rintro e W ⟨vp, va, ve, h1, _⟩; exact ⟨vp, va, ve, h1 h⟩
theorem mass_both (s : Sh) (m : Int) : ∃ m0 m1 m2 m3 er : Int,
    (∀ (w : World) (pv : Value), Lies w pv s.pts → Calls Try.prog 13 #[s.v pv, .int .i64 m] w fun e W => e = .returned (.tuple #[.agg #[.int .i64 m0, .int .i64 m1, .int .i64 m2, .int .i64 m3], .int .i64 er]) ∧ Below w.heap.size w W) ∧
    (∀ (w : World) (pv : Value), Lies w pv s.pts → Calls Try.prog 14 #[s.v pv, .int .i64 m] w fun e W => e = .returned (.tuple #[.agg #[.int .i64 m0, .int .i64 m1, .int .i64 m2, .int .i64 m3], .int .i64 er]) ∧ Below w.heap.size w W) := by
  by_cases h : checkP s ≠ 0 ∨ ¬ (16777216 ≤ m ∧ m ≤ 1099511627776)
  · exact ⟨0, 0, 0, 0, _, fun w pv hv => mass_bad s pv m w hv h, fun w pv hv => rmass_bad s pv m w hv h⟩
  · have h1 : checkP s = 0 := Classical.byContradiction fun e => h (Or.inl e)
    have h2 : 16777216 ≤ m ∧ m ≤ 1099511627776 := Classical.byContradiction fun e => h (Or.inr e)
    exact ⟨m, maxI (iner s m).x 4096, maxI (iner s m).y 4096, maxI (iner s m).z 4096, 0, fun w pv hv => mass_ok s pv m w h1 hv h2.1 h2.2, fun w pv hv => rmass_ok s pv m w hv h1 h2.1 h2.2⟩
theorem points_same (v u : Value) (L : List Pt) (w : World) (hv : Lies w v L) (hu : Lies w u L) :
    Calls Try.prog 16 #[v, u] w fun e W => e = .returned (.bool true) ∧ Below w.heap.size w W := by
  have h := points_any v u L L w hv hu
  rw [decide_eq_true rfl] at h
  exact h
set_option maxHeartbeats 2000000 in
set_option maxRecDepth 100000 in
theorem cores_same (vp va ve up ua ue : Value) (Pl A E : List Pt) (rd : Int) (w0 : World) (p1 : Lies w0 vp Pl) (a1 : Lies w0 va A) (e1 : Lies w0 ve E) (p2 : Lies w0 up Pl) (a2 : Lies w0 ua A) (e2 : Lies w0 ue E) :
    Calls Try.prog 15 #[.agg #[vp, va, ve, .int .i64 rd], .agg #[up, ua, ue, .int .i64 rd]] w0 fun e W => e = .returned (.bool true) ∧ Below w0.heap.size w0 W := by
  have H1 : Hid _ := fun w' (h : Below w0.heap.size w0 w') => points_same vp up Pl w' (p1.below h) (p2.below h)
  have H2 : Hid _ := fun w' (h : Below w0.heap.size w0 w') => points_same va ua A w' (a1.below h) (a2.below h)
  have H3 : Hid _ := fun w' (h : Below w0.heap.size w0 w') => points_same ve ue E w' (e1.below h) (e2.below h)
  obtain ⟨o1, c1, rfl, _⟩ := p1.form
  obtain ⟨o2, c2, rfl, _⟩ := a1.form
  obtain ⟨o3, c3, rfl, _⟩ := e1.form
  obtain ⟨o4, c4, rfl, _⟩ := p2.form
  obtain ⟨o5, c5, rfl, _⟩ := a2.form
  obtain ⟨o6, c6, rfl, _⟩ := e2.form
  clear p1 a1 e1 p2 a2 e2
  have B1 : Hid (Cells ((w0.alloc (.cells #[.slice o1 Pl.length c1, .slice o2 A.length c2, .slice o3 E.length c3, .int .i64 rd] 31)).alloc (.cells #[.slice o4 Pl.length c4, .slice o5 A.length c5, .slice o6 E.length c6, .int .i64 rd] 31)) w0.heap.size [.slice o1 Pl.length c1, .slice o2 A.length c2, .slice o3 E.length c3, .int .i64 rd]) := (Cells.new w0 [.slice o1 Pl.length c1, .slice o2 A.length c2, .slice o3 E.length c3, .int .i64 rd] _).step (n_after _ _)
  have B2 : Hid (Cells ((w0.alloc (.cells #[.slice o1 Pl.length c1, .slice o2 A.length c2, .slice o3 E.length c3, .int .i64 rd] 31)).alloc (.cells #[.slice o4 Pl.length c4, .slice o5 A.length c5, .slice o6 E.length c6, .int .i64 rd] 31)) (w0.heap.size + 1) [.slice o4 Pl.length c4, .slice o5 A.length c5, .slice o6 E.length c6, .int .i64 rd]) := by have := Cells.new (w0.alloc (.cells #[.slice o1 Pl.length c1, .slice o2 A.length c2, .slice o3 E.length c3, .int .i64 rd] 31)) [.slice o4 Pl.length c4, .slice o5 A.length c5, .slice o6 E.length c6, .int .i64 rd] 31; rwa [World.size_alloc] at this
  have hB : Hid (Below w0.heap.size w0 ((w0.alloc (.cells #[.slice o1 Pl.length c1, .slice o2 A.length c2, .slice o3 E.length c3, .int .i64 rd] 31)).alloc (.cells #[.slice o4 Pl.length c4, .slice o5 A.length c5, .slice o6 E.length c6, .int .i64 rd] 31))) := b_step (n_after w0 _) (n_after _ _)
  go_enter Try.func15, Try.ntmps15
  go_upto_region 1 with fail
  obtain ⟨V, hV⟩ : ∃ V : World, V = (w0.alloc (.cells #[.slice o1 Pl.length c1, .slice o2 A.length c2, .slice o3 E.length c3, .int .i64 rd] 31)).alloc (.cells #[.slice o4 Pl.length c4, .slice o5 A.length c5, .slice o6 E.length c6, .int .i64 rd] 31) := ⟨_, rfl⟩
  rw [← hV] at B1 B2 hB ⊢
  clear hV
  have s3 := (B1.out 3 _ rfl).1
  have t3 := (B2.out 3 _ rfl).1
  have s0 := (B1.out 0 _ rfl).1
  have t0 := (B2.out 0 _ rfl).1
  go_wp2_with (fail)
  refine Calls.mono (H1.out _ hB.out) ?_
  rintro e V1 ⟨rfl, h⟩
  have hB : Hid _ := b_step hB.out h
  have s1 := (Cells.step B1.out h 1 _ rfl).1
  have t1 := (Cells.step B2.out h 1 _ rfl).1
  have s2 := (Cells.step B1.out h 2 _ rfl).1
  have t2 := (Cells.step B2.out h 2 _ rfl).1
  clear s3 t3 s0 t0 h
  go_wp2_with (fail)
  refine Calls.mono (H2.out _ hB.out) ?_
  rintro e V2 ⟨rfl, h⟩
  have hB : Hid _ := b_step hB.out h
  have s2 := c_after h s2
  have t2 := c_after h t2
  clear s1 t1 h
  go_wp2_with (fail)
  refine Calls.mono (H3.out _ hB.out) ?_
  rintro e V3 ⟨rfl, h⟩
  have hB : Hid _ := b_step hB.out h
  clear s2 t2 h
  go_wp2_with (fail)
  go_ret
  exact ⟨rfl, hB.out⟩
/-- The law's state: the shape's box, the core's, the two masses', the copy, and what is written over. -/
structure SS (w0 W : World) (bs b7 b11 b13 : Nat) (sv c7 mv : List Value) (vo vp va : Value) (L : List Pt) (np na : Nat) (xs ys : List Value) : Prop where
  cs : Cells W bs sv
  cc : Cells W b7 c7
  cm : Cells W b11 mv
  cn : Cells W b13 mv
  ro : W.ownsRow w0.heap.size 23 3 vo L.length (fl3 L)
  rp : W.ownsRow w0.heap.size 23 3 vp np xs
  ra : W.ownsRow w0.heap.size 23 3 va na ys
  ps : vp.ownBlock ≠ some bs
  p7 : vp.ownBlock ≠ some b7
  p11 : vp.ownBlock ≠ some b11
  p13 : vp.ownBlock ≠ some b13
  po : ∀ k, vp.ownBlock = some k → vo.ownBlock ≠ some k
  pa : ∀ k, vp.ownBlock = some k → va.ownBlock ≠ some k
  as_ : va.ownBlock ≠ some bs
  a7 : va.ownBlock ≠ some b7
  a11 : va.ownBlock ≠ some b11
  a13 : va.ownBlock ≠ some b13
  ao : ∀ k, va.ownBlock = some k → vo.ownBlock ≠ some k
  below : Below w0.heap.size w0 W
theorem SS.putP {w0 W : World} {bs b7 b11 b13 g cap : Nat} {sv c7 mv : List Value} {vo va : Value} {L : List Pt} {np na : Nat} {xs ys : List Value} (h : SS w0 W bs b7 b11 b13 sv c7 mv vo (.slice (some ⟨g, 0, none⟩) np cap) va L np na xs ys) (j : Nat) (u : Value) :
    SS w0 (W.setCell ⟨g, j, none⟩ u) bs b7 b11 b13 sv c7 mv vo (.slice (some ⟨g, 0, none⟩) np cap) va L np na (xs.set j u) ys := by
  have hg : (Value.slice (some ⟨g, 0, none⟩) np cap).ownBlock = some g := rfl
  have hlg := (h.rp.lt g hg).1
  exact ⟨h.cs.put (fun e => h.ps (by rw [hg, e])) _ _, h.cc.put (fun e => h.p7 (by rw [hg, e])) _ _, h.cm.put (fun e => h.p11 (by rw [hg, e])) _ _, h.cn.put (fun e => h.p13 (by rw [hg, e])) _ _, ownsRow_setCell_other h.ro (h.po g hg) _, (h.rp.stored j u).1, ownsRow_setCell_other h.ra (h.pa g hg) _, h.ps, h.p7, h.p11, h.p13, h.po, h.pa, h.as_, h.a7, h.a11, h.a13, h.ao, h.below.setCell hlg _⟩
theorem SS.putA {w0 W : World} {bs b7 b11 b13 g cap : Nat} {sv c7 mv : List Value} {vo vp : Value} {L : List Pt} {np na : Nat} {xs ys : List Value} (h : SS w0 W bs b7 b11 b13 sv c7 mv vo vp (.slice (some ⟨g, 0, none⟩) na cap) L np na xs ys) (j : Nat) (u : Value) :
    SS w0 (W.setCell ⟨g, j, none⟩ u) bs b7 b11 b13 sv c7 mv vo vp (.slice (some ⟨g, 0, none⟩) na cap) L np na xs (ys.set j u) := by
  have hg : (Value.slice (some ⟨g, 0, none⟩) na cap).ownBlock = some g := rfl
  have hlg := (h.ra.lt g hg).1
  exact ⟨h.cs.put (fun e => h.as_ (by rw [hg, e])) _ _, h.cc.put (fun e => h.a7 (by rw [hg, e])) _ _, h.cm.put (fun e => h.a11 (by rw [hg, e])) _ _, h.cn.put (fun e => h.a13 (by rw [hg, e])) _ _, ownsRow_setCell_other h.ro (h.ao g hg) _, ownsRow_setCell_other h.rp (fun e => h.pa g e hg) _, (h.ra.stored j u).1, h.ps, h.p7, h.p11, h.p13, h.po, h.pa, h.as_, h.a7, h.a11, h.a13, h.ao, h.below.setCell hlg _⟩
theorem Lies.news {w : World} {ad : Addr} {n c : Nat} {L : List Pt} (h : Lies w (.slice (some ad) n c) L) : ∀ j u, (fl3 L)[j]? = some u → w.cell? (ad.add j) = some u := by
  intro j u hj
  obtain ⟨o, cap, e, _, _, hc⟩ := h.cells
  simp only [Value.slice.injEq] at e
  obtain ⟨rfl, rfl, rfl⟩ := e
  rcases hc with rfl | ⟨g, off, e', hc⟩
  · simp [fl3] at hj
  · cases e'
    have q : (⟨g, off, none⟩ : Addr).add j = ⟨g, off + j, none⟩ := by unfold Addr.add; split <;> simp_all
    rw [q]
    exact hc _ _ hj
theorem cell_of_row {w : World} {base g n cap : Nat} {xs : List Value} (h : w.ownsRow base 23 3 (.slice (some ⟨g, 0, none⟩) n cap) n xs) {j : Nat} (hj : j < n * 3) (hx : xs.length = n * 3) : (∃ u, w.cell? ⟨g, j, none⟩ = some u) ∧ w.frozen? ⟨g, j, none⟩ = false :=
  ⟨⟨_, (h.cellAt j hj).trans (List.getElem?_eq_getElem (by omega))⟩, h.frozenAt j⟩

set_option maxHeartbeats 4000000 in
set_option maxRecDepth 100000 in
theorem cores_law (k r hx hy hz : Int) (o : Option Addr) (Ls : List Pt) (c : Nat) (mass : Int) (w0 : World) (hL : Lies w0 (.slice o Ls.length c) Ls) (hN : o = none → Ls.length = 0 ∧ c = 0) :
    Calls Try.prog 3 #[.agg #[.int .i64 k, .int .i64 r, .int .i64 hx, .int .i64 hy, .int .i64 hz, .slice o Ls.length c], .int .i64 mass] w0 fun e w' => e = .returned (.bool true) ∧ Below w0.heap.size w0 w' := by
  have AW : Hid _ := fun W => awake5_any W
  obtain ⟨Pl, A, E, rd, er, her, HC1', HC2'⟩ := core_both ⟨k, r, ⟨hx, hy, hz⟩, Ls⟩
  obtain ⟨m0, m1, m2, m3, em, HM1', HM2'⟩ := mass_both ⟨k, r, ⟨hx, hy, hz⟩, Ls⟩ mass
  have HK1' := fun w (h : Lies w (.slice o Ls.length c) Ls) => check_any ⟨k, r, ⟨hx, hy, hz⟩, Ls⟩ (.slice o Ls.length c) w h
  have HK2' := fun w (h : Lies w (.slice o Ls.length c) Ls) => rcheck_any ⟨k, r, ⟨hx, hy, hz⟩, Ls⟩ (.slice o Ls.length c) w h
  rw [← her] at HK1' HK2'
  clear her
  have HC1 : Hid _ := HC1'
  have HC2 : Hid _ := HC2'
  have HM1 : Hid _ := HM1'
  have HM2 : Hid _ := HM2'
  have HK1 : Hid _ := HK1'
  have HK2 : Hid _ := HK2'
  have HL : Hid _ := hL
  have HN : Hid _ := hN
  clear HC1' HC2' HM1' HM2' HK1' HK2' hL hN
  unfold Sh.v at HC1 HC2 HM1 HM2 HK1 HK2
  dsimp only at HC1 HC2 HM1 HM2 HK1 HK2
  obtain ⟨i0, hii, hiz, hisz, hib⟩ := info_parts point_info
  have HI : Hid _ := And.intro hii (And.intro hiz (And.intro hisz hib))
  clear hii hiz hisz hib
  have B1 : Hid (Cells (w0.alloc (.cells #[.int .i64 k, .int .i64 r, .int .i64 hx, .int .i64 hy, .int .i64 hz, .slice o Ls.length c] 26)) w0.heap.size [.int .i64 k, .int .i64 r, .int .i64 hx, .int .i64 hy, .int .i64 hz, .slice o Ls.length c]) := Cells.new w0 [.int .i64 k, .int .i64 r, .int .i64 hx, .int .i64 hy, .int .i64 hz, .slice o Ls.length c] _
  have hB : Hid (Below w0.heap.size w0 (w0.alloc (.cells #[.int .i64 k, .int .i64 r, .int .i64 hx, .int .i64 hy, .int .i64 hz, .slice o Ls.length c] 26))) := n_after w0 _
  go_enter Try.func3, Try.ntmps3
  go_wp2_with (fail)
  refine Calls.mono (AW.out _) ?_
  clear AW
  rintro e V ⟨rfl, h⟩
  have BS : Hid (Cells V w0.heap.size [.int .i64 k, .int .i64 r, .int .i64 hx, .int .i64 hy, .int .i64 hz, .slice o Ls.length c]) := Cells.step B1.out h
  have hD : Hid _ := b_step hB.out h
  clear h hB B1
  obtain ⟨bs, hbs⟩ : ∃ b, b = w0.heap.size := ⟨_, rfl⟩
  rw [← hbs] at BS ⊢
  have HBS : Hid _ := hbs
  clear hbs
  have c0 := (BS.out 0 _ rfl).1
  have c1 := (BS.out 1 _ rfl).1
  have c2 := (BS.out 2 _ rfl).1
  have c3 := (BS.out 3 _ rfl).1
  have c4 := (BS.out 4 _ rfl).1
  have c5 := (BS.out 5 _ rfl).1
  by_cases h40 : 40 < Ls.length
  · go_upto_region 3 with fail
    refine RV.region_by (fun j v w => match j with | 0 => v = .bool (true) | 1 => v = .bool (true) | 2 => v = .agg #[.int .i64 k, .int .i64 r, .int .i64 hx, .int .i64 hy, .int .i64 hz, .slice o Ls.length c] | 3 => v = .int .i64 (er) | 4 => v = .agg #[.int .i64 k, .int .i64 r, .int .i64 hx, .int .i64 hy, .int .i64 hz, .slice o Ls.length c] | 5 => v = .int .i64 (er) | 6 => v = .bool (true) | 7 => v = .bool (true) | 8 => v = .bool (true) | _ => True) (fun γ L w9 => Below V.heap.size V w9) (by kernel_rfl) (by kernel_rfl) (by kernel_rfl) (by kernel_rfl) ?_ ?_ ?_
    · exact (Below.refl _ V).drew
    · generalize hD : dstOf _ = D
      generalize hWA : waitsFor _ = WA
      generalize hZ : Act.mk _ _ = Z
      obtain ⟨R, hR⟩ : ∃ R : Nat → Value → World → Prop, R = (fun j v w => match j with | 0 => v = .bool (true) | 1 => v = .bool (true) | 2 => v = .agg #[.int .i64 k, .int .i64 r, .int .i64 hx, .int .i64 hy, .int .i64 hz, .slice o Ls.length c] | 3 => v = .int .i64 (er) | 4 => v = .agg #[.int .i64 k, .int .i64 r, .int .i64 hx, .int .i64 hy, .int .i64 hz, .slice o Ls.length c] | 5 => v = .int .i64 (er) | 6 => v = .bool (true) | 7 => v = .bool (true) | 8 => v = .bool (true) | _ => True) := ⟨_, rfl⟩
      rw [← hR]
      have d0 : D 0 = some 23 := by rw [← hD]; rfl
      have d1 : D 1 = some 24 := by rw [← hD]; rfl
      have d2 : D 2 = some 25 := by rw [← hD]; rfl
      have d3 : D 3 = some 26 := by rw [← hD]; rfl
      have d4 : D 4 = some 27 := by rw [← hD]; rfl
      have d5 : D 5 = some 28 := by rw [← hD]; rfl
      have d6 : D 6 = some 29 := by rw [← hD]; rfl
      have d7 : D 7 = some 30 := by rw [← hD]; rfl
      have d8 : D 8 = some 4 := by rw [← hD]; rfl
      have r0 : ∀ v w, R 0 v w = (v = .bool (true)) := fun v w => by rw [hR]; rfl
      have r1 : ∀ v w, R 1 v w = (v = .bool (true)) := fun v w => by rw [hR]; rfl
      have r2 : ∀ v w, R 2 v w = (v = .agg #[.int .i64 k, .int .i64 r, .int .i64 hx, .int .i64 hy, .int .i64 hz, .slice o Ls.length c]) := fun v w => by rw [hR]; rfl
      have r3 : ∀ v w, R 3 v w = (v = .int .i64 (er)) := fun v w => by rw [hR]; rfl
      have r4 : ∀ v w, R 4 v w = (v = .agg #[.int .i64 k, .int .i64 r, .int .i64 hx, .int .i64 hy, .int .i64 hz, .slice o Ls.length c]) := fun v w => by rw [hR]; rfl
      have r5 : ∀ v w, R 5 v w = (v = .int .i64 (er)) := fun v w => by rw [hR]; rfl
      have r6 : ∀ v w, R 6 v w = (v = .bool (true)) := fun v w => by rw [hR]; rfl
      have r7 : ∀ v w, R 7 v w = (v = .bool (true)) := fun v w => by rw [hR]; rfl
      have r8 : ∀ v w, R 8 v w = (v = .bool (true)) := fun v w => by rw [hR]; rfl
      have E2 : ∀ (γ : Nat → Value) (L : Nat → Bool) (a : Act) (w : World), RV.Held D WA R (fun γ L w9 => Below V.heap.size V w9) Z γ L a w → a.tmps[2]? = some (.pointer (some ⟨bs, 0, none⟩)) := fun γ L a w hH => (hH.rest 2 (by rw [← hD]; exact RV.dst_free (by kernel_rfl))).trans (by rw [← hZ]; rfl)
      have E5 : ∀ (γ : Nat → Value) (L : Nat → Bool) (a : Act) (w : World), RV.Held D WA R (fun γ L w9 => Below V.heap.size V w9) Z γ L a w → a.tmps[5]? = some (.bool (true)) := fun γ L a w hH => (hH.rest 5 (by rw [← hD]; exact RV.dst_free (by kernel_rfl))).trans (by rw [← hZ]; rfl)
      have K : ∀ j v w w', R j v w → R j v w' := by rw [hR]; intro j v w w' h; exact h
      clear hD hWA hZ hR
      refine RV.AllDo.cons 0 (RV.does_pure (fun γ v L w hl h => h) (fun γ L a w hH hl hA => by have e0 := E5 γ L a w hH; exact ⟨.bool (true), by simp [execOp, go_sem, e0], (r0 _ _).mpr rfl⟩)) ?_
      refine RV.AllDo.cons 1 (RV.does_pure (fun γ v L w hl h => h) (fun γ L a w hH hl hA => by have l0 : L 0 = true := hA ⟨0, .data⟩ (by simp) rfl; have e0 := hH.slot 0 23 d0 l0; have g0 := hH.holds 0 l0; rw [r0] at g0; rw [g0] at e0; exact ⟨.bool (true), by simp [execOp, go_sem, e0], (r1 _ _).mpr rfl⟩)) ?_
      refine RV.AllDo.cons 2 (RV.does_guarded rfl d1 (fun v w h => by rw [r1] at h; exact h) (by simp) (RV.does_pure (fun γ v L w hl h => h) (fun γ L a w hH hl hA => by have e0 := E2 γ L a w hH; have hB9 := hH.glob; have v0 := c_after hB9 c0; have v1 := c_after hB9 c1; have v2 := c_after hB9 c2; have v3 := c_after hB9 c3; have v4 := c_after hB9 c4; have v5 := c_after hB9 c5; exact ⟨.agg #[.int .i64 k, .int .i64 r, .int .i64 hx, .int .i64 hy, .int .i64 hz, .slice o Ls.length c], by simp [execOp, go_sem, e0, v0, v1, v2, v3, v4, v5], (r2 _ _).mpr rfl⟩))) ?_
      refine RV.AllDo.cons 3 (RV.does_guarded rfl d1 (fun v w h => by rw [r1] at h; exact h) (by simp) (RV.does_call (fun γ L a w hH hl hA => by have l0 : L 2 = true := hA ⟨2, .data⟩ (by simp) rfl; have e0 := hH.slot 2 25 d2 l0; have g0 := hH.holds 2 l0; rw [r2] at g0; rw [g0] at e0; have hB9 := hH.glob; exact ⟨9, #[.agg #[.int .i64 k, .int .i64 r, .int .i64 hx, .int .i64 hy, .int .i64 hz, .slice o Ls.length c]], by simp [go_sem, e0], Calls.mono (HK1.out w (HL.out.below (b_step hD.out hB9))) (by rintro e w2 ⟨rfl, hb⟩; exact ⟨_, rfl, (r3 _ _).mpr rfl, fun j v _ h => K j v _ _ h, hB9.trans (hb.mono hB9.size)⟩)⟩))) ?_
      refine RV.AllDo.cons 4 (RV.does_guarded rfl d1 (fun v w h => by rw [r1] at h; exact h) (by simp) (RV.does_pure (fun γ v L w hl h => h) (fun γ L a w hH hl hA => by have e0 := E2 γ L a w hH; have hB9 := hH.glob; have v0 := c_after hB9 c0; have v1 := c_after hB9 c1; have v2 := c_after hB9 c2; have v3 := c_after hB9 c3; have v4 := c_after hB9 c4; have v5 := c_after hB9 c5; exact ⟨.agg #[.int .i64 k, .int .i64 r, .int .i64 hx, .int .i64 hy, .int .i64 hz, .slice o Ls.length c], by simp [execOp, go_sem, e0, v0, v1, v2, v3, v4, v5], (r4 _ _).mpr rfl⟩))) ?_
      refine RV.AllDo.cons 5 (RV.does_guarded rfl d1 (fun v w h => by rw [r1] at h; exact h) (by simp) (RV.does_call (fun γ L a w hH hl hA => by have l0 : L 4 = true := hA ⟨4, .data⟩ (by simp) rfl; have e0 := hH.slot 4 27 d4 l0; have g0 := hH.holds 4 l0; rw [r4] at g0; rw [g0] at e0; have hB9 := hH.glob; exact ⟨10, #[.agg #[.int .i64 k, .int .i64 r, .int .i64 hx, .int .i64 hy, .int .i64 hz, .slice o Ls.length c]], by simp [go_sem, e0], Calls.mono (HK2.out w (HL.out.below (b_step hD.out hB9))) (by rintro e w2 ⟨rfl, hb⟩; exact ⟨_, rfl, (r5 _ _).mpr rfl, fun j v _ h => K j v _ _ h, hB9.trans (hb.mono hB9.size)⟩)⟩))) ?_
      refine RV.AllDo.cons 6 (RV.does_guarded rfl d1 (fun v w h => by rw [r1] at h; exact h) (by simp) (RV.does_pure (fun γ v L w hl h => h) (fun γ L a w hH hl hA => by have l0 : L 3 = true := hA ⟨3, .data⟩ (by simp) rfl; have e0 := hH.slot 3 26 d3 l0; have g0 := hH.holds 3 l0; rw [r3] at g0; rw [g0] at e0; have l1 : L 5 = true := hA ⟨5, .data⟩ (by simp) rfl; have e1 := hH.slot 5 28 d5 l1; have g1 := hH.holds 5 l1; rw [r5] at g1; rw [g1] at e1; exact ⟨.bool (true), by simp [execOp, go_sem, e0, e1], (r6 _ _).mpr rfl⟩))) ?_
      refine RV.AllDo.cons 7 (RV.does_pure (fun γ v L w hl h => h) (fun γ L a w hH hl hA => by have l0 : L 1 = true := hA ⟨1, .data⟩ (by simp) rfl; have e0 := hH.slot 1 24 d1 l0; have g0 := hH.holds 1 l0; rw [r1] at g0; rw [g0] at e0; have l1 : L 6 = true := hA ⟨6, .data⟩ (by simp) rfl; have e1 := hH.slot 6 29 d6 l1; have g1 := hH.holds 6 l1; rw [r6] at g1; rw [g1] at e1; exact ⟨.bool (true), by simp [execOp, go_sem, e0, e1], (r7 _ _).mpr rfl⟩)) ?_
      refine RV.AllDo.cons 8 (RV.does_pure (fun γ v L w hl h => h) (fun γ L a w hH hl hA => by have l0 : L 7 = true := hA ⟨7, .data⟩ (by simp) rfl; have e0 := hH.slot 7 30 d7 l0; have g0 := hH.holds 7 l0; rw [r7] at g0; rw [g0] at e0; exact ⟨.bool (true), by simp [execOp, go_sem, e0], (r8 _ _).mpr rfl⟩)) ?_
      exact RV.AllDo.nil
    · intro γ a5 w5 L9 hL hLo hH
      have ha := RV.held_act hH hL (by kernel_rfl) (by kernel_rfl)
      have hb8 := hH.glob
      have y0 : γ 0 = .bool (true) := hH.holds 0 (hL 0 (by decide))
      have y1 : γ 1 = .bool (true) := hH.holds 1 (hL 1 (by decide))
      have y2 : γ 2 = .agg #[.int .i64 k, .int .i64 r, .int .i64 hx, .int .i64 hy, .int .i64 hz, .slice o Ls.length c] := hH.holds 2 (hL 2 (by decide))
      have y3 : γ 3 = .int .i64 (er) := hH.holds 3 (hL 3 (by decide))
      have y4 : γ 4 = .agg #[.int .i64 k, .int .i64 r, .int .i64 hx, .int .i64 hy, .int .i64 hz, .slice o Ls.length c] := hH.holds 4 (hL 4 (by decide))
      have y5 : γ 5 = .int .i64 (er) := hH.holds 5 (hL 5 (by decide))
      have y6 : γ 6 = .bool (true) := hH.holds 6 (hL 6 (by decide))
      have y7 : γ 7 = .bool (true) := hH.holds 7 (hL 7 (by decide))
      have y8 : γ 8 = .bool (true) := hH.holds 8 (hL 8 (by decide))
      rw [ha]
      clear ha hH hL hLo
      simp only [RV.putAll, Act.put, List.setIfInBounds_toArray, List.set_cons_zero, List.set_cons_succ, Nat.zero_add, Nat.reduceAdd, y0, y1, y2, y3, y4, y5, y6, y7, y8]
      clear y0 y1 y2 y3 y4 y5 y6 y7 y8
      have hE : Hid _ := b_step hD.out hb8
      go_wp2_with (fail)
      go_ret
      exact ⟨rfl, hE.out⟩
  · have HL0 : Hid _ := HL.out
    have HW0 : Hid (w0.heap.size ≤ V.heap.size) := hD.out.size
    clear c0 c1 c2 c3 c4
    go_upto_region 4 with fail
    go_cut [6] from 18 (fun s6 wx => ∃ (oo : Option Addr) (co : Nat), s6 = .slice oo Ls.length co ∧ Hid (Row V wx (.slice oo Ls.length co) Ls))
    case first =>
      by_cases ho : o = none
      · obtain ⟨hl0, hc0⟩ := HN.out ho
        have eL : Ls = [] := List.length_eq_zero_iff.1 hl0
        subst ho eL hc0
        go_wp2_with (at_builtin; refine wpList_append_own_none rfl _ _ 24 rfl V.heap.size 23 i0 3 Try.underlying24 HI.out.1 _ 0 [] rfl (World.ownsRow_nil _ _ _ _) rfl ?_)
        go_meet
        case rel => exact ⟨none, 0, rfl, Row.start V⟩
      · obtain ⟨ad, rfl⟩ : ∃ ad, o = some ad := by cases o with | none => exact absurd rfl ho | some a => exact ⟨a, rfl⟩
        have RD : Hid _ := Lies.news (HL.out.below hD.out)
        go_wp2_with (at_builtin; refine wpList_append_own_at _ rfl _ _ 24 rfl V.heap.size 23 i0 _ 3 24 Try.underlying24 HI.out.1 HI.out.2.1 HI.out.2.2.1 HI.out.2.2.2 rfl (by decide) _ 0 [] rfl (World.ownsRow_nil _ _ _ _) ad Ls.length c (fl3 Ls) rfl (by rw [fl3_length]) RD.out (fl3_one _) (by unfold maxLen; omega) (by omega) (Nat.le_refl _) ?_; intro u9 V2 r8 g8 _ s8)
        have hrow : V2.ownsRow V.heap.size 23 3 u9 Ls.length (fl3 Ls) := by simpa using r8
        obtain ⟨oo, co, rfl, _⟩ := (Lies.of_row hrow).form
        have hbw : Below V.heap.size V V2 := (Below.refl _ _).grown g8 (Nat.le_refl _) (fun k e => by cases e)
        go_meet
        case rel => exact ⟨oo, co, rfl, hrow, hbw⟩
    case rest =>
      obtain ⟨oo, co, rfl, HO⟩ := hcut
      clear c5 HN
      obtain ⟨Vc, hVc⟩ : ∃ X : World, X = wc := ⟨_, rfl⟩
      rw [← hVc] at HO ⊢
      clear hVc
      have hVl := HO.out.below.size
      have hX : Hid _ := b_step hD.out HO.out.below
      have BS : Hid _ := Cells.step BS.out HO.out.below
      have LO : Hid _ := HO.out.lies
      have LS : Hid _ := HL.out.below hX.out
      have hbsl : bs < Vc.heap.size := World.block_lt_of_cell? _ _ (BS.out 0 _ rfl).1
      clear HL hD
      have c0 := (BS.out 0 _ rfl).1
      have c1 := (BS.out 1 _ rfl).1
      have c2 := (BS.out 2 _ rfl).1
      have c3 := (BS.out 3 _ rfl).1
      have c4 := (BS.out 4 _ rfl).1
      have c5 := (BS.out 5 _ rfl).1
      go_wp2_with (fail)
      refine Calls.mono (HC1.out _ _ LS.out) ?_
      clear HC1
      rintro e V1 ⟨vp, va, ve, rfl, hT⟩
      have h := hT.below
      have BS : Hid (Cells V1 bs [.int .i64 k, .int .i64 r, .int .i64 hx, .int .i64 hy, .int .i64 hz, .slice o Ls.length c]) := Cells.step BS.out h
      have LO : Hid _ := LO.out.below h
      have LS : Hid _ := LS.out.below h
      have hX : Hid _ := b_step hX.out h
      clear c0 c1 c2 c3 c4 c5
      obtain ⟨op, cp, rfl, _⟩ := (Lies.of_row hT.rp).form
      obtain ⟨oa, ca, rfl, _⟩ := (Lies.of_row hT.ra).form
      obtain ⟨oe, ce, rfl, _⟩ := (Lies.of_row hT.re).form
      have T1 : Hid _ := hT
      have LP : Hid _ := Lies.of_row hT.rp
      have LA : Hid _ := Lies.of_row hT.ra
      have LE : Hid _ := Lies.of_row hT.re
      have zV1 := h.size
      clear hT h
      have HY : Hid (Below V1.heap.size V1 V1) := Below.refl _ _
      go_upto_region 6 with fail
      obtain ⟨V2, hN9⟩ : ∃ X : World, X = V1.alloc (.cells #[.slice op Pl.length cp, .slice oa A.length ca, .slice oe E.length ce, .int .i64 rd] 31) := ⟨_, rfl⟩
      obtain ⟨b7, hbb⟩ : ∃ b, b = V1.heap.size := ⟨_, rfl⟩
      have h : Below V1.heap.size V1 V2 := by rw [hN9]; exact n_after _ _
      have BC : Hid (Cells V2 b7 [.slice op Pl.length cp, .slice oa A.length ca, .slice oe E.length ce, .int .i64 rd]) := by rw [hN9, hbb]; exact Cells.new V1 [.slice op Pl.length cp, .slice oa A.length ca, .slice oe E.length ce, .int .i64 rd] _
      rw [← hN9, ← hbb]
      clear hN9
      have BS : Hid (Cells V2 bs [.int .i64 k, .int .i64 r, .int .i64 hx, .int .i64 hy, .int .i64 hz, .slice o Ls.length c]) := Cells.step BS.out h
      have LO : Hid _ := LO.out.below h
      have LS : Hid _ := LS.out.below h
      have LP : Hid _ := LP.out.below h
      have LA : Hid _ := LA.out.below h
      have LE : Hid _ := LE.out.below h
      have hX : Hid _ := b_step hX.out h
      have HY : Hid _ := b_step HY.out h
      have Lb7 : V1.heap.size ≤ b7 := by omega
      have zb7 := h.size
      clear h hbb
      have c0 := (BS.out 0 _ rfl).1
      have c1 := (BS.out 1 _ rfl).1
      have c2 := (BS.out 2 _ rfl).1
      have c3 := (BS.out 3 _ rfl).1
      have c4 := (BS.out 4 _ rfl).1
      have c5 := (BS.out 5 _ rfl).1
      go_wp2_with (fail)
      refine Calls.mono (HC2.out _ _ LS.out) ?_
      clear HC2
      rintro e V3 ⟨vp2, va2, ve2, rfl, hT⟩
      have h := hT.below
      have BS : Hid (Cells V3 bs [.int .i64 k, .int .i64 r, .int .i64 hx, .int .i64 hy, .int .i64 hz, .slice o Ls.length c]) := Cells.step BS.out h
      have BC : Hid (Cells V3 b7 [.slice op Pl.length cp, .slice oa A.length ca, .slice oe E.length ce, .int .i64 rd]) := Cells.step BC.out h
      have LO : Hid _ := LO.out.below h
      have LS : Hid _ := LS.out.below h
      have LP : Hid _ := LP.out.below h
      have LA : Hid _ := LA.out.below h
      have LE : Hid _ := LE.out.below h
      have hX : Hid _ := b_step hX.out h
      have HY : Hid _ := b_step HY.out h
      clear c0 c1 c2 c3 c4 c5
      obtain ⟨op2, cp2, rfl, _⟩ := (Lies.of_row hT.rp).form
      obtain ⟨oa2, ca2, rfl, _⟩ := (Lies.of_row hT.ra).form
      obtain ⟨oe2, ce2, rfl, _⟩ := (Lies.of_row hT.re).form
      have LP2 : Hid _ := Lies.of_row hT.rp
      have LA2 : Hid _ := Lies.of_row hT.ra
      have LE2 : Hid _ := Lies.of_row hT.re
      have zV3 := h.size
      clear hT h
      go_upto_region 7 with fail
      obtain ⟨V4, hN9⟩ : ∃ X : World, X = V3.alloc (.cells #[.slice op2 Pl.length cp2, .slice oa2 A.length ca2, .slice oe2 E.length ce2, .int .i64 rd] 31) := ⟨_, rfl⟩
      obtain ⟨b9, hbb⟩ : ∃ b, b = V3.heap.size := ⟨_, rfl⟩
      have h : Below V3.heap.size V3 V4 := by rw [hN9]; exact n_after _ _
      have BD : Hid (Cells V4 b9 [.slice op2 Pl.length cp2, .slice oa2 A.length ca2, .slice oe2 E.length ce2, .int .i64 rd]) := by rw [hN9, hbb]; exact Cells.new V3 [.slice op2 Pl.length cp2, .slice oa2 A.length ca2, .slice oe2 E.length ce2, .int .i64 rd] _
      rw [← hN9, ← hbb]
      clear hN9
      have BS : Hid (Cells V4 bs [.int .i64 k, .int .i64 r, .int .i64 hx, .int .i64 hy, .int .i64 hz, .slice o Ls.length c]) := Cells.step BS.out h
      have BC : Hid (Cells V4 b7 [.slice op Pl.length cp, .slice oa A.length ca, .slice oe E.length ce, .int .i64 rd]) := Cells.step BC.out h
      have LO : Hid _ := LO.out.below h
      have LS : Hid _ := LS.out.below h
      have LP : Hid _ := LP.out.below h
      have LA : Hid _ := LA.out.below h
      have LE : Hid _ := LE.out.below h
      have LP2 : Hid _ := LP2.out.below h
      have LA2 : Hid _ := LA2.out.below h
      have LE2 : Hid _ := LE2.out.below h
      have hX : Hid _ := b_step hX.out h
      have HY : Hid _ := b_step HY.out h
      have Lb9 : V3.heap.size ≤ b9 := by omega
      have zb9 := h.size
      clear h hbb
      have c0 := (BS.out 0 _ rfl).1
      have c1 := (BS.out 1 _ rfl).1
      have c2 := (BS.out 2 _ rfl).1
      have c3 := (BS.out 3 _ rfl).1
      have c4 := (BS.out 4 _ rfl).1
      have c5 := (BS.out 5 _ rfl).1
      go_wp2_with (fail)
      refine Calls.mono (HM1.out _ _ LS.out) ?_
      clear HM1
      rintro e V5 ⟨rfl, h⟩
      have BS : Hid (Cells V5 bs [.int .i64 k, .int .i64 r, .int .i64 hx, .int .i64 hy, .int .i64 hz, .slice o Ls.length c]) := Cells.step BS.out h
      have BC : Hid (Cells V5 b7 [.slice op Pl.length cp, .slice oa A.length ca, .slice oe E.length ce, .int .i64 rd]) := Cells.step BC.out h
      have BD : Hid (Cells V5 b9 [.slice op2 Pl.length cp2, .slice oa2 A.length ca2, .slice oe2 E.length ce2, .int .i64 rd]) := Cells.step BD.out h
      have LO : Hid _ := LO.out.below h
      have LS : Hid _ := LS.out.below h
      have LP : Hid _ := LP.out.below h
      have LA : Hid _ := LA.out.below h
      have LE : Hid _ := LE.out.below h
      have LP2 : Hid _ := LP2.out.below h
      have LA2 : Hid _ := LA2.out.below h
      have LE2 : Hid _ := LE2.out.below h
      have hX : Hid _ := b_step hX.out h
      have HY : Hid _ := b_step HY.out h
      have zV5 := h.size
      clear h
      clear c0 c1 c2 c3 c4 c5
      go_upto_region 8 with fail
      obtain ⟨V6, hN9⟩ : ∃ X : World, X = V5.alloc (.cells #[.int .i64 m0, .int .i64 m1, .int .i64 m2, .int .i64 m3] 36) := ⟨_, rfl⟩
      obtain ⟨b11, hbb⟩ : ∃ b, b = V5.heap.size := ⟨_, rfl⟩
      have h : Below V5.heap.size V5 V6 := by rw [hN9]; exact n_after _ _
      have BM : Hid (Cells V6 b11 [.int .i64 m0, .int .i64 m1, .int .i64 m2, .int .i64 m3]) := by rw [hN9, hbb]; exact Cells.new V5 [.int .i64 m0, .int .i64 m1, .int .i64 m2, .int .i64 m3] _
      rw [← hN9, ← hbb]
      clear hN9
      have BS : Hid (Cells V6 bs [.int .i64 k, .int .i64 r, .int .i64 hx, .int .i64 hy, .int .i64 hz, .slice o Ls.length c]) := Cells.step BS.out h
      have BC : Hid (Cells V6 b7 [.slice op Pl.length cp, .slice oa A.length ca, .slice oe E.length ce, .int .i64 rd]) := Cells.step BC.out h
      have BD : Hid (Cells V6 b9 [.slice op2 Pl.length cp2, .slice oa2 A.length ca2, .slice oe2 E.length ce2, .int .i64 rd]) := Cells.step BD.out h
      have LO : Hid _ := LO.out.below h
      have LS : Hid _ := LS.out.below h
      have LP : Hid _ := LP.out.below h
      have LA : Hid _ := LA.out.below h
      have LE : Hid _ := LE.out.below h
      have LP2 : Hid _ := LP2.out.below h
      have LA2 : Hid _ := LA2.out.below h
      have LE2 : Hid _ := LE2.out.below h
      have hX : Hid _ := b_step hX.out h
      have HY : Hid _ := b_step HY.out h
      have Lb11 : V5.heap.size ≤ b11 := by omega
      have zb11 := h.size
      clear h hbb
      have c0 := (BS.out 0 _ rfl).1
      have c1 := (BS.out 1 _ rfl).1
      have c2 := (BS.out 2 _ rfl).1
      have c3 := (BS.out 3 _ rfl).1
      have c4 := (BS.out 4 _ rfl).1
      have c5 := (BS.out 5 _ rfl).1
      go_wp2_with (fail)
      refine Calls.mono (HM2.out _ _ LS.out) ?_
      clear HM2
      rintro e V7 ⟨rfl, h⟩
      have BS : Hid (Cells V7 bs [.int .i64 k, .int .i64 r, .int .i64 hx, .int .i64 hy, .int .i64 hz, .slice o Ls.length c]) := Cells.step BS.out h
      have BC : Hid (Cells V7 b7 [.slice op Pl.length cp, .slice oa A.length ca, .slice oe E.length ce, .int .i64 rd]) := Cells.step BC.out h
      have BD : Hid (Cells V7 b9 [.slice op2 Pl.length cp2, .slice oa2 A.length ca2, .slice oe2 E.length ce2, .int .i64 rd]) := Cells.step BD.out h
      have BM : Hid (Cells V7 b11 [.int .i64 m0, .int .i64 m1, .int .i64 m2, .int .i64 m3]) := Cells.step BM.out h
      have LO : Hid _ := LO.out.below h
      have LS : Hid _ := LS.out.below h
      have LP : Hid _ := LP.out.below h
      have LA : Hid _ := LA.out.below h
      have LE : Hid _ := LE.out.below h
      have LP2 : Hid _ := LP2.out.below h
      have LA2 : Hid _ := LA2.out.below h
      have LE2 : Hid _ := LE2.out.below h
      have hX : Hid _ := b_step hX.out h
      have HY : Hid _ := b_step HY.out h
      have zV7 := h.size
      clear h
      clear c0 c1 c2 c3 c4 c5
      go_upto_region 9 with fail
      obtain ⟨V8, hN9⟩ : ∃ X : World, X = V7.alloc (.cells #[.int .i64 m0, .int .i64 m1, .int .i64 m2, .int .i64 m3] 36) := ⟨_, rfl⟩
      obtain ⟨b13, hbb⟩ : ∃ b, b = V7.heap.size := ⟨_, rfl⟩
      have h : Below V7.heap.size V7 V8 := by rw [hN9]; exact n_after _ _
      have BN : Hid (Cells V8 b13 [.int .i64 m0, .int .i64 m1, .int .i64 m2, .int .i64 m3]) := by rw [hN9, hbb]; exact Cells.new V7 [.int .i64 m0, .int .i64 m1, .int .i64 m2, .int .i64 m3] _
      rw [← hN9, ← hbb]
      clear hN9
      have BS : Hid (Cells V8 bs [.int .i64 k, .int .i64 r, .int .i64 hx, .int .i64 hy, .int .i64 hz, .slice o Ls.length c]) := Cells.step BS.out h
      have BC : Hid (Cells V8 b7 [.slice op Pl.length cp, .slice oa A.length ca, .slice oe E.length ce, .int .i64 rd]) := Cells.step BC.out h
      have BD : Hid (Cells V8 b9 [.slice op2 Pl.length cp2, .slice oa2 A.length ca2, .slice oe2 E.length ce2, .int .i64 rd]) := Cells.step BD.out h
      have BM : Hid (Cells V8 b11 [.int .i64 m0, .int .i64 m1, .int .i64 m2, .int .i64 m3]) := Cells.step BM.out h
      have LO : Hid _ := LO.out.below h
      have LS : Hid _ := LS.out.below h
      have LP : Hid _ := LP.out.below h
      have LA : Hid _ := LA.out.below h
      have LE : Hid _ := LE.out.below h
      have LP2 : Hid _ := LP2.out.below h
      have LA2 : Hid _ := LA2.out.below h
      have LE2 : Hid _ := LE2.out.below h
      have hX : Hid _ := b_step hX.out h
      have HY : Hid _ := b_step HY.out h
      have Lb13 : V7.heap.size ≤ b13 := by omega
      have zb13 := h.size
      clear h hbb
      have p0 := (BC.out 0 _ rfl).1
      have p1 := (BC.out 1 _ rfl).1
      have p2 := (BC.out 2 _ rfl).1
      have p3 := (BC.out 3 _ rfl).1
      have q0 := (BD.out 0 _ rfl).1
      have q1 := (BD.out 1 _ rfl).1
      have q2 := (BD.out 2 _ rfl).1
      have q3 := (BD.out 3 _ rfl).1
      go_wp2_with (fail)
      refine Calls.mono (cores_same _ _ _ _ _ _ Pl A E rd V8 LP.out LA.out LE.out LP2.out LA2.out LE2.out) ?_
      rintro e X ⟨rfl, h⟩
      have BS : Hid (Cells X bs [.int .i64 k, .int .i64 r, .int .i64 hx, .int .i64 hy, .int .i64 hz, .slice o Ls.length c]) := Cells.step BS.out h
      have BC : Hid (Cells X b7 [.slice op Pl.length cp, .slice oa A.length ca, .slice oe E.length ce, .int .i64 rd]) := Cells.step BC.out h
      have BD : Hid (Cells X b9 [.slice op2 Pl.length cp2, .slice oa2 A.length ca2, .slice oe2 E.length ce2, .int .i64 rd]) := Cells.step BD.out h
      have BM : Hid (Cells X b11 [.int .i64 m0, .int .i64 m1, .int .i64 m2, .int .i64 m3]) := Cells.step BM.out h
      have BN : Hid (Cells X b13 [.int .i64 m0, .int .i64 m1, .int .i64 m2, .int .i64 m3]) := Cells.step BN.out h
      have LO : Hid _ := LO.out.below h
      have LS : Hid _ := LS.out.below h
      have LP : Hid _ := LP.out.below h
      have LA : Hid _ := LA.out.below h
      have LE : Hid _ := LE.out.below h
      have LP2 : Hid _ := LP2.out.below h
      have LA2 : Hid _ := LA2.out.below h
      have LE2 : Hid _ := LE2.out.below h
      have hX : Hid _ := b_step hX.out h
      have HY : Hid _ := b_step HY.out h
      clear h p0 p1 p2 p3 q0 q1 q2 q3 LP2 LA2 LE2 BD
      have HSS : Hid (SS w0 X bs b7 b11 b13 [.int .i64 k, .int .i64 r, .int .i64 hx, .int .i64 hy, .int .i64 hz, .slice o Ls.length c] [.slice op Pl.length cp, .slice oa A.length ca, .slice oe E.length ce, .int .i64 rd] [.int .i64 m0, .int .i64 m1, .int .i64 m2, .int .i64 m3] (.slice oo Ls.length co) (.slice op Pl.length cp) (.slice oa A.length ca) Ls Pl.length A.length (fl3 Pl) (fl3 A)) := by
        have hw := hX.out.size
        have hbse := HBS.out
        have rp := own_below T1.out.rp HY.out
        have ra := own_below T1.out.ra HY.out
        have ro : X.ownsRow V.heap.size 23 3 (.slice oo Ls.length co) Ls.length (fl3 Ls) := own_below (own_below HO.out.row T1.out.below) HY.out
        have hVw : w0.heap.size ≤ V.heap.size := HW0.out
        refine ⟨BS.out, BC.out, BM.out, BN.out, own_le ro hVw, own_le rp (by omega), own_le ra (by omega), fun e => ?_, fun e => ?_, fun e => ?_, fun e => ?_, fun k e e' => ?_, T1.out.pa, fun e => ?_, fun e => ?_, fun e => ?_, fun e => ?_, fun k e e' => ?_, hX.out⟩
        · have := (T1.out.rp.lt _ e).1; omega
        · have := (T1.out.rp.lt _ e).2; omega
        · have := (T1.out.rp.lt _ e).2; omega
        · have := (T1.out.rp.lt _ e).2; omega
        · have a := (T1.out.rp.lt k e).1; have b := (HO.out.row.lt k e').2; omega
        · have := (T1.out.ra.lt _ e).1; omega
        · have := (T1.out.ra.lt _ e).2; omega
        · have := (T1.out.ra.lt _ e).2; omega
        · have := (T1.out.ra.lt _ e).2; omega
        · have a := (T1.out.ra.lt k e).1; have b := (HO.out.row.lt k e').2; omega
      have HLS : Hid (∀ W, Below w0.heap.size w0 W → Lies W (.slice o Ls.length c) Ls) := fun W hW => HL0.out.below hW
      clear BS BC BM BN LO LS LP LA LE hX HY T1 HO
      go_wp2_with (fail)
      go_loopg [16] Pl.length (fun gm s wr => ∃ (i : Nat) (xs : List Value), s = .int .i64 (i : Int) ∧ i ≤ Pl.length ∧ gm = Pl.length - i ∧ xs.length = Pl.length * 3 ∧ Hid (SS w0 wr bs b7 b11 b13 [.int .i64 k, .int .i64 r, .int .i64 hx, .int .i64 hy, .int .i64 hz, .slice o Ls.length c] [.slice op Pl.length cp, .slice oa A.length ca, .slice oe E.length ce, .int .i64 rd] [.int .i64 m0, .int .i64 m1, .int .i64 m2, .int .i64 m3] (.slice oo Ls.length co) (.slice op Pl.length cp) (.slice oa A.length ca) Ls Pl.length A.length xs (fl3 A)))
      case atStart => exact ⟨0, _, rfl, Nat.zero_le _, rfl, fl3_length Pl, HSS⟩
      case round =>
        clear HSS
        obtain ⟨ii, xs, rfl, hi, hgm, hxs, HS⟩ := hrel
        have HG1 : Hid _ := hgm
        clear hgm
        have p0 := (HS.out.cc 0 _ rfl).1
        by_cases hit : ii < Pl.length
        · obtain ⟨g, cp', ev, _⟩ := own_at HS.out.rp (by omega)
          cases ev
          obtain ⟨⟨u9, x0⟩, xf⟩ := cell_of_row HS.out.rp (j := ii * 3) (by omega) hxs
          have hiz : (ii : Int) < (Pl.length : Int) := by omega
          have HS2 : Hid _ := HS.out.putP (ii * 3) (.int .i64 (-9))
          go_wp2_with (fail)
          go_roundg (Pl.length - (ii + 1))
          case measure => have := HG1.out; omega
          case rel => exact ⟨ii + 1, xs.set (ii * 3) (.int .i64 (-9)), by go_num, by omega, rfl, by rw [List.length_set]; exact hxs, HS2⟩
        · go_wp2_with (fail)
          go_loopg [17] A.length (fun gm s wr => ∃ (i : Nat) (ys : List Value), s = .int .i64 (i : Int) ∧ i ≤ A.length ∧ gm = A.length - i ∧ ys.length = A.length * 3 ∧ Hid (SS w0 wr bs b7 b11 b13 [.int .i64 k, .int .i64 r, .int .i64 hx, .int .i64 hy, .int .i64 hz, .slice o Ls.length c] [.slice op Pl.length cp, .slice oa A.length ca, .slice oe E.length ce, .int .i64 rd] [.int .i64 m0, .int .i64 m1, .int .i64 m2, .int .i64 m3] (.slice oo Ls.length co) (.slice op Pl.length cp) (.slice oa A.length ca) Ls Pl.length A.length xs ys))
          case atStart => exact ⟨0, _, rfl, Nat.zero_le _, rfl, fl3_length A, HS⟩
          case round =>
            clear HS p0
            obtain ⟨jj, ys, rfl, hj, hgm, hys, HS⟩ := hrel
            have HG2 : Hid _ := hgm
            clear hgm
            have p1 := (HS.out.cc 1 _ rfl).1
            by_cases hjt : jj < A.length
            · obtain ⟨g, ca', ev, _⟩ := own_at HS.out.ra (by omega)
              cases ev
              obtain ⟨⟨u9, x0⟩, xf⟩ := cell_of_row HS.out.ra (j := jj * 3) (by omega) hys
              have hjz : (jj : Int) < (A.length : Int) := by omega
              have HS2 : Hid _ := HS.out.putA (jj * 3) (.int .i64 (-9))
              go_wp2_with (fail)
              go_roundg (A.length - (jj + 1))
              case measure => have := HG2.out; omega
              case rel => exact ⟨jj + 1, ys.set (jj * 3) (.int .i64 (-9)), by go_num, by omega, rfl, by rw [List.length_set]; exact hys, HS2⟩
            · have LO : Hid _ := Lies.of_row HS.out.ro
              have LS : Hid _ := HLS.out _ HS.out.below
              have c0 := (HS.out.cs 0 _ rfl).1
              have c1 := (HS.out.cs 1 _ rfl).1
              have c2 := (HS.out.cs 2 _ rfl).1
              have c3 := (HS.out.cs 3 _ rfl).1
              have c4 := (HS.out.cs 4 _ rfl).1
              have c5 := (HS.out.cs 5 _ rfl).1
              have a0 := (HS.out.cm 0 _ rfl).1
              have b0 := (HS.out.cn 0 _ rfl).1
              have a1 := (HS.out.cm 1 _ rfl).1
              have b1 := (HS.out.cn 1 _ rfl).1
              have a2 := (HS.out.cm 2 _ rfl).1
              have b2 := (HS.out.cn 2 _ rfl).1
              have a3 := (HS.out.cm 3 _ rfl).1
              have b3 := (HS.out.cn 3 _ rfl).1
              go_wp2_with (fail)
              refine Calls.mono (HK1.out _ LS.out) ?_
              rintro e U1 ⟨rfl, h⟩
              have c5 := c_after h c5
              have hE : Hid _ := b_step HS.out.below h
              have LO : Hid _ := LO.out.below h
              have LS : Hid _ := LS.out.below h
              clear h c0 c1 c2 c3 c4 a0 a1 a2 a3 b0 b1 b2 b3
              go_wp2_with (fail)
              refine Calls.mono (points_same _ _ Ls _ LO.out LS.out) ?_
              rintro e U2 ⟨rfl, h⟩
              have hE : Hid _ := b_step hE.out h
              go_wp2_with (fail)
              go_ret
              exact ⟨rfl, hE.out⟩
end Go.Proofs.Ytiicpdlaaklahaa
namespace Go.Proofs.Ytiicpdlaaklahaa
namespace shapeCores
open Go.ChangeShapes Go.WideShapes Go.ChangeAt Go.RowKit Go.Shelf
set_option linter.unusedVariables false

theorem own : ownKnob Try.prog.godebug = none := by kernel_rfl
theorem laidOut : laidOutB Try.prog = true := by kernel_rfl

theorem walk (k rr x y z : Int) (o : Option Addr) (L : List Pt) (c : Nat) (mass : Int) (w0 : World) (hL : Lies w0 (.slice o L.length c) L) (hn : o = none → L.length = 0 ∧ c = 0) (bm : -9223372036854775808 ≤ mass ∧ mass ≤ 9223372036854775807) :
    Calls Try.prog 3 #[.agg #[.int .i64 k, .int .i64 rr, .int .i64 x, .int .i64 y, .int .i64 z, .slice o L.length c], .int .i64 mass] w0 fun e w' => e = .returned (.bool true) ∧ Below w0.heap.size w0 w' := cores_law k rr x y z o L c mass w0 hL hn

/-! ### The row's step, after the guide's template -/
set_option maxRecDepth 100000 in
theorem lifted (os : Os) (started : os.Started) (H : Type) (enc : TypeId × Value → H) :
    ReturnsInHanded {} Try.checked os 3 .any (Rows.shapeCoresSpec.pre6 enc Try.prog Try.f3 Rows.shapeCoresRow.domain false) (Rows.shapeCoresSpec.post enc Try.prog Try.f3 false true false false) := by
  refine returnsInHanded_of_change (C := Try.checked) own started (by kernel_rfl) Try.func3
    (ChangeSpec.witness6 (enc := enc) (C := Try.checked) false ⟨#[], #[.agg #[.int .i64 0, .int .i64 0, .int .i64 0, .int .i64 0, .int .i64 0, .slice none 0 0], .int .i64 0], []⟩ 8 (by kernel_rfl) (by kernel_rfl) (by kernel_rfl) (by kernel_rfl)) ?_
  intro W base args ds gs before hval0 hW hcnd _
  have hval : ∀ (j : Nat) t v, Try.f3.params[j]? = some t → args[j]? = some v → Value.okWide Try.prog W .any base t v := hval0
  have hW' := hW
  obtain ⟨p, q, hA0, hV, rfl, hfz, hnd⟩ := hW
  have hA : DataW.TrodAll enc Try.prog W 0 (fun _ => true) true Try.f3.params.toList args.toList ds p := hA0
  rw [Try.params3] at hA hval
  obtain ⟨v0, vs0, d0, ds0, p0, q0, hargs, rfl, rfl, h0, r0⟩ := trodAll_cons hA
  obtain ⟨v1, vs1, d1, ds1, p1, q1, rfl, rfl, rfl, h1, r1⟩ := trodAll_cons r0
  obtain ⟨rfl, rfl, rfl⟩ := trodAll_nil r1
  obtain rfl : args = #[v0, v1] := by cases args; simp_all
  obtain ⟨rfl, rfl⟩ := trodVars_none hV
  have k0 := h0
  have lt0 : ∀ x ∈ p0, x.block < W.heap.size := by obtain ⟨m, hm⟩ := k0; exact DataW.trod_lt m _ _ _ hm
  obtain ⟨k, rr, x, y, z, o, L, c, rfl, hL, hn, wk, wr, wx, wy, wz⟩ := open_shape2 (hval 0 26 v0 rfl rfl) h0
  obtain ⟨a1, rfl, rfl, rfl, w1⟩ := open_int Try.underlying3 (hval 1 3 v1 rfl rfl) h1
  have b1 := bounds_i64 w1
  clear hA0 hval0
  refine (walk k rr x y z o L c a1 W hL hn (by omega)).mono fun e W' ⟨he, bel⟩ => ?_
  subst he
  exact ⟨_, rfl, _, _, _, [], _, [], hW', trodAll_mk1 (shut_bool Try.underlying4 _), (trodAll_cons_mk (Below.trod laidOut (by kernel_rfl) (of_decide_eq_true (by kernel_rfl)) k0 bel lt0) (trodAll_cons_mk (shut_int Try.underlying3 w1) trodAll_mk0)), rfl, bel.frame _, fun h => by cases h⟩

theorem over : Rows.shapeCoresRow.holds Try.pinned (OpenSpec.ofChange Rows.shapeCoresSpec) :=
  OpenClaim.holds_of_wide 3 Try.f3 rfl rfl rfl rfl rfl rfl rfl ⟨rfl, rfl, rfl, rfl, rfl⟩ rfl rfl rfl rfl rfl (by kernel_rfl) Try.func3 (by kernel_rfl)
    (of_decide_eq_true (by kernel_rfl)) (by unfold Func.isWrapper; first | (rw [if_pos (by decide +kernel)]; kernel_rfl) | (rw [if_neg (by decide +kernel)]; exact ⟨rfl, rfl⟩))
    (fun os started H enc _ => lifted os started H enc)

end shapeCores

theorem shapeCores_holds : Rows.ShapeCoresSaid := shapeCores.over
#print axioms shapeCores_holds
end Go.Proofs.Ytiicpdlaaklahaa
