/- Cores held against one another; a core that is not turned; moved and placed, placed and moved. -/
import Derived.Test.YtocdompopadanaaGreatKPsR
import Derived.Test.YtocdompopadanaaGreatKPsT
namespace Go.Proofs.YtocdompopadanaaGreat
open Go.RowKit Go.Shelf
set_option linter.unusedVariables false

set_option maxHeartbeats 2000000 in
set_option maxRecDepth 100000 in
theorem cores6_same (vp va ve up ua ue : Value) (Pl A E : List Pt) (rd : Int) (w0 : World) (p1 : Lies w0 vp Pl) (a1 : Lies w0 va A) (e1 : Lies w0 ve E) (p2 : Lies w0 up Pl) (a2 : Lies w0 ua A) (e2 : Lies w0 ue E) :
    Calls Tryz.prog 12 #[.agg #[vp, va, ve, .int .i64 rd], .agg #[up, ua, ue, .int .i64 rd]] w0 fun e W => e = .returned (.bool true) ∧ Below w0.heap.size w0 W := by
  have H1 : Hid _ := fun w' (h : Below w0.heap.size w0 w') => points_same6 vp up Pl w' (p1.below h) (p2.below h)
  have H2 : Hid _ := fun w' (h : Below w0.heap.size w0 w') => points_same6 va ua A w' (a1.below h) (a2.below h)
  have H3 : Hid _ := fun w' (h : Below w0.heap.size w0 w') => points_same6 ve ue E w' (e1.below h) (e2.below h)
  obtain ⟨o1, c1, rfl, _⟩ := p1.form
  obtain ⟨o2, c2, rfl, _⟩ := a1.form
  obtain ⟨o3, c3, rfl, _⟩ := e1.form
  obtain ⟨o4, c4, rfl, _⟩ := p2.form
  obtain ⟨o5, c5, rfl, _⟩ := a2.form
  obtain ⟨o6, c6, rfl, _⟩ := e2.form
  clear p1 a1 e1 p2 a2 e2
  have B1 : Hid (Cells ((w0.alloc (.cells #[.slice o1 Pl.length c1, .slice o2 A.length c2, .slice o3 E.length c3, .int .i64 rd] 24)).alloc (.cells #[.slice o4 Pl.length c4, .slice o5 A.length c5, .slice o6 E.length c6, .int .i64 rd] 24)) w0.heap.size [.slice o1 Pl.length c1, .slice o2 A.length c2, .slice o3 E.length c3, .int .i64 rd]) := (Cells.new w0 [.slice o1 Pl.length c1, .slice o2 A.length c2, .slice o3 E.length c3, .int .i64 rd] _).step (n_after _ _)
  have B2 : Hid (Cells ((w0.alloc (.cells #[.slice o1 Pl.length c1, .slice o2 A.length c2, .slice o3 E.length c3, .int .i64 rd] 24)).alloc (.cells #[.slice o4 Pl.length c4, .slice o5 A.length c5, .slice o6 E.length c6, .int .i64 rd] 24)) (w0.heap.size + 1) [.slice o4 Pl.length c4, .slice o5 A.length c5, .slice o6 E.length c6, .int .i64 rd]) := by have := Cells.new (w0.alloc (.cells #[.slice o1 Pl.length c1, .slice o2 A.length c2, .slice o3 E.length c3, .int .i64 rd] 24)) [.slice o4 Pl.length c4, .slice o5 A.length c5, .slice o6 E.length c6, .int .i64 rd] 24; rwa [World.size_alloc] at this
  have hB : Hid (Below w0.heap.size w0 ((w0.alloc (.cells #[.slice o1 Pl.length c1, .slice o2 A.length c2, .slice o3 E.length c3, .int .i64 rd] 24)).alloc (.cells #[.slice o4 Pl.length c4, .slice o5 A.length c5, .slice o6 E.length c6, .int .i64 rd] 24))) := b_step (n_after w0 _) (n_after _ _)
  go_enter Tryz.func12, Tryz.ntmps12
  go_upto_region 1 with fail
  obtain ⟨V, hV⟩ : ∃ V : World, V = (w0.alloc (.cells #[.slice o1 Pl.length c1, .slice o2 A.length c2, .slice o3 E.length c3, .int .i64 rd] 24)).alloc (.cells #[.slice o4 Pl.length c4, .slice o5 A.length c5, .slice o6 E.length c6, .int .i64 rd] 24) := ⟨_, rfl⟩
  rw [← hV] at B1 B2 hB ⊢
  clear hV
  have s3 := (B1.out 3 _ rfl).1
  have t3 := (B2.out 3 _ rfl).1
  have s0 := (B1.out 0 _ rfl).1
  have t0 := (B2.out 0 _ rfl).1
  go_wp2_with (fail)
  refine Calls.mono (H1.out _ hB.out) ?_
  rintro e V1 ⟨rfl, h⟩
  have hB : Hid _ := b_step hB.out h
  have s1 := (Cells.step B1.out h 1 _ rfl).1
  have t1 := (Cells.step B2.out h 1 _ rfl).1
  have s2 := (Cells.step B1.out h 2 _ rfl).1
  have t2 := (Cells.step B2.out h 2 _ rfl).1
  clear s3 t3 s0 t0 h
  go_wp2_with (fail)
  refine Calls.mono (H2.out _ hB.out) ?_
  rintro e V2 ⟨rfl, h⟩
  have hB : Hid _ := b_step hB.out h
  have s2 := c_after h s2
  have t2 := c_after h t2
  clear s1 t1 h
  go_wp2_with (fail)
  refine Calls.mono (H3.out _ hB.out) ?_
  rintro e V3 ⟨rfl, h⟩
  have hB : Hid _ := b_step hB.out h
  clear s2 t2 h
  go_wp2_with (fail)
  go_ret
  exact ⟨rfl, hB.out⟩
/-- A core that is turned by a turn that turns parts about. -/
theorem place_diag6 {b0 b1 b2 : Bool} (q : Q4) (hw : WM.Whole q.w q.x q.y q.z) (hd : (rowsM q).Dg b0 b1 b2) (P A E : List Pt) (h0 : 0 < P.length) (hP : ∀ p ∈ P, p.inB 65536 = true) (hA : ∀ p ∈ A, p ≠ Pt.O ∧ p.short = p) (hE : ∀ p ∈ E, p ≠ Pt.O ∧ p.short = p) (nP : P.length < 1099511627776) (nA : A.length < 1099511627776) (nE : E.length < 1099511627776)
    (r : Int) (o o2 o3 : Option Addr) (c c2 c3 : Nat) (W : World) (l1 : Lies W (.slice o P.length c) P) (l2 : Lies W (.slice o2 A.length c2) A) (l3 : Lies W (.slice o3 E.length c3) E) :
    Calls Tryz.prog 8 #[.agg #[.slice o P.length c, .slice o2 A.length c2, .slice o3 E.length c3, .int .i64 r], .agg #[.int .i64 0, .int .i64 0, .int .i64 0, .int .i64 q.w, .int .i64 q.x, .int .i64 q.y, .int .i64 q.z]] W fun e W' => ∃ (o : Option Addr) (c : Nat) (o2 : Option Addr) (c2 : Nat) (o3 : Option Addr) (c3 : Nat), e = .returned (.tuple #[.agg #[.slice o P.length c, .slice o2 A.length c2, .slice o3 E.length c3, .int .i64 r], .bool true]) ∧ Hid (Lies W' (.slice o P.length c) (P.map (Pt.flip b0 b1 b2)) ∧ Lies W' (.slice o2 A.length c2) (A.map (Pt.flip b0 b1 b2)) ∧ Lies W' (.slice o3 E.length c3) (E.map (Pt.flip b0 b1 b2))) ∧ Below W.heap.size W W' := by
  have hc := place_any Pt.O q P A E r _ _ _ W l1 l2 l3 nP nA nE
  rw [place_ok hw (by decide) h0 hP (fun p hp => (short_g (hA p hp).1 (hA p hp).2).2) (fun p hp => (short_g (hE p hp).1 (hE p hp).2).2), diag_points hd hP, diag_dirs hd hA, diag_dirs hd hE] at hc
  refine Calls.mono hc ?_
  rintro e W' ⟨vp, va, ve, _, h⟩
  obtain ⟨rfl, h3⟩ := h rfl
  obtain ⟨o1, c1, rfl⟩ := rowp_form h3.rp
  obtain ⟨o2, c2, rfl⟩ := rowp_form h3.ra
  obtain ⟨o3, c3, rfl⟩ := rowp_form h3.re
  have g1 := Lies.of_row h3.rp
  have g2 := Lies.of_row h3.ra
  have g3 := Lies.of_row h3.re
  simp only [List.length_map] at g1 g2 g3 ⊢
  exact ⟨o1, c1, o2, c2, o3, c3, rfl, ⟨g1, g2, g3⟩, h3.below⟩
theorem setg (W : World) (b o : Nat) (u : Value) : W.grownBy (W.setCell ⟨b, o, none⟩ u) (some b) := ⟨rfl, rfl, rfl, by simp [World.setCell], fun k _ hk => Below.heap_setCell _ _ _ k (fun e => hk (by rw [e]))⟩
theorem Lies.put {W : World} {v : Value} {Ls : List Pt} (h : Lies W v Ls) {b : Nat} (hne : ∀ q n c, v = .slice (some q) n c → Ls ≠ [] → q.block ≠ b) (x y z : Value) : Lies (((W.setCell ⟨b, 0, none⟩ x).setCell ⟨b, 1, none⟩ y).setCell ⟨b, 2, none⟩ z) v Ls :=
  ((h.grown (setg W b 0 x) hne).grown (setg _ b 1 y) hne).grown (setg _ b 2 z) hne
theorem Cells.put3 {W : World} {b b' : Nat} {vs : List Value} (h : Cells W b vs) (hne : b ≠ b') (x y z : Value) : Cells (((W.setCell ⟨b', 0, none⟩ x).setCell ⟨b', 1, none⟩ y).setCell ⟨b', 2, none⟩ z) b vs := ((h.apart hne 0 x).apart hne 1 y).apart hne 2 z
theorem Lies.far {W : World} {v : Value} {Ls : List Pt} (h : Lies W v Ls) {b : Nat} (hb : W.heap.size ≤ b) : ∀ q n c, v = .slice (some q) n c → Ls ≠ [] → q.block ≠ b := fun q n c e h0 e' => by
  subst e
  have := h.lt h0
  omega
theorem own_far {W : World} {base n : Nat} {v : Value} {xs : List Value} (h : W.ownsRow base 31 3 v n xs) {b : Nat} (hb : b < base) {Ls : List Pt} : ∀ q k c, v = .slice (some q) k c → Ls ≠ [] → q.block ≠ b := fun q k c e _ e' => by
  subst e
  have := (h.lt q.block rfl).1
  omega
theorem flip_id (p : Pt) : p.flip false false false = p := by cases p; rfl
theorem map_flip_id (L : List Pt) : L.map (Pt.flip false false false) = L := by
  have : Pt.flip false false false = id := by funext p; exact flip_id p
  rw [this, List.map_id]
/-- To move by whole grains, and to place that far off. -/
theorem point_moved {m : M9} (h : m.Fit) {t p b : Pt} (ht : t.inB 4398046511104 = true) (hb : b.inB 1048576 = true) (hp : p.inB 65536 = true) :
    m.ptV ⟨t.x + b.x * 1048576, t.y + b.y * 1048576, t.z + b.z * 1048576⟩ p = (m.ptV t p).plus b := by
  have hB := (Pt.inB_iff _ _).1 hb
  have hT := (Pt.inB_iff _ _).1 ht
  obtain ⟨u, e1, hu, _, e2, k2⟩ := point_some h (inB_mono (n := 5497558138880) ht (by decide)) hp
  obtain ⟨u', e1', hu', _, e2', _⟩ := point_some h (t := ⟨t.x + b.x * 1048576, t.y + b.y * 1048576, t.z + b.z * 1048576⟩) ((Pt.inB_iff _ _).2 (by dsimp only; omega)) hp
  rw [e1] at e1'
  cases e1'
  rw [e2'] 
  have hk := (Pt.inB_iff _ _).1 k2
  rw [e2] at hk ⊢
  unfold Pt.plus
  dsimp only at hk ⊢
  simp only [IntKind.wrap_i64, Pt.mk.injEq]
  omega
theorem came_moved {t b : Pt} {q : Q4} {P A E P1 A1 E1 P2 A2 E2 : List Pt} (hw : WM.Whole q.w q.x q.y q.z) (ht : t.inB 4398046511104 = true) (hb : b.inB 1048576 = true) (hP : ∀ p ∈ P, p.inB 65536 = true)
    (c1 : Came t q P A E P1 A1 E1) (c2 : Came ⟨t.x + b.x * 1048576, t.y + b.y * 1048576, t.z + b.z * 1048576⟩ q P A E P2 A2 E2) : P1.map (fun p => p.plus b) = P2 ∧ A1 = A2 ∧ E1 = E2 := by
  refine ⟨?_, by rw [c1.a, c2.a], by rw [c1.e, c2.e]⟩
  rw [c1.p, c2.p, List.map_map]
  exact List.map_congr_left fun p hp => (point_moved (rows_fit hw).2 ht hb (hP p hp)).symm
theorem part6_below (n m : Int) (w : World) (hn : -9223372036854775808 ≤ n ∧ n ≤ 9223372036854775807) (hm : 0 ≤ m ∧ m ≤ 4611686018427387903) :
    Calls Tryz.prog 20 #[.int .i64 n, .int .i64 m] w fun e w' => e = .returned (.int .i64 (partZ n m)) ∧ Below w.heap.size w w' :=
  Calls.mono (part6_any n m w hn hm) (by rintro e w2 ⟨rfl, rfl⟩; exact ⟨rfl, Below.refl _ _⟩)
end Go.Proofs.YtocdompopadanaaGreat
