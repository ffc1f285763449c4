/- Lists of points that are appended whole. -/
import Derived.Test.YtffjifhojedmkaaGreatSSMore0
import Derived.Laws.OwnMore
import Derived.Maps.AppendAt
import Derived.Test.YtffjifhojedmkaaGreatSSMore4
import Derived.Test.YtffjifhojedmkaaGreatProg
import Derived.WalkKit
import Derived.Laws.MathBits
import Derived.Laws.Externs
import Derived.Handy
import Derived.Test.YtffjifhojedmkaaGreatSSMore1
import Derived.Laws.BitsAllLaws
import Derived.WalkLawsBesides
import Derived.Deep.RegionWith
set_option linter.unusedVariables false
namespace Go.Proofs.YtffjifhojedmkaaGreat
section
open Go.RowKit Go.Shelf
theorem rowp_form {W : World} {base : Nat} {u : Value} {n : Nat} {xs : List Value} (h : W.ownsRow base 23 3 u n xs) : ∃ o c, u = .slice o n c := by
 rcases h.2 with ⟨rfl, h0⟩ | ⟨g, cap, cur, rfl, _⟩
 ·exact ⟨none, 0, by rw [h0]⟩
 ·exact ⟨_, _, rfl⟩
theorem pts_read {w : World} {g off n c : Nat} {L : List Pt} (h : Lies w (.slice (some ⟨g, off, none⟩) n c) L) : ∀ j u, (fl3 L)[j]? = some u -> w.cell? ((⟨g, off, none⟩ : Addr).add j) = some u := by
 intro j u hj
 obtain ⟨o, cap, e, _, _, hc⟩ := h.form
 simp only [Value.slice.injEq] at e
 obtain ⟨rfl, rfl, rfl⟩ := e
 have hl : j < L.length * 3 := by have := (List.getElem?_eq_some_iff.1 hj).1; rwa [fl3_length] at this
 have hi : j / 3 < L.length := by omega
 obtain ⟨g', off', e', x0, x1, x2⟩ := hc (j / 3) hi
 cases e'
 obtain ⟨f0, f1, f2⟩ := fl3_at L (j / 3) hi
 have ej : j = j / 3 * 3 \/ j = j / 3 * 3 + 1 \/ j = j / 3 * 3 + 2 := by omega
 have ad : (⟨g, off, none⟩ : Addr).add j = ⟨g, off + j, none⟩ := by unfold Addr.add; split <;> simp_all
 rw [ad]
 rcases ej with e | e | e
 ·rw [e] at hj ⊢; rw [f0] at hj; rw [<- hj]; exact x0
 ·rw [e] at hj ⊢; rw [f1] at hj; rw [<- hj]; rw [<- Nat.add_assoc]; exact x1
 ·rw [e] at hj ⊢; rw [f2] at hj; rw [<- hj]; rw [<- Nat.add_assoc]; exact x2
theorem none_run {P : Program} {w : World} (base : Nat) (t ty e : TypeId) (i : TypeInfo) (size : Nat) (ht : P.underlying t = some (.slice e)) (hi : P.info? e = some i) (v : Value) (n c : Nat) (xs : List Value) (hown : w.ownsRow base e size v n xs) :
  (Builtin.append_ #[t, t] ty #[v, .slice none 0 c]).run P w = .ok v w := by
 rcases hown.2 with ⟨rfl, rfl⟩ | ⟨g, cap, cur, rfl, _, _, hnc, _⟩
 ·simp [Builtin.append_, run_underlying ht, sizeOf, typeInfo, hi, Builtin.lenOf, Builtin.firstCells]
 ·simp [Builtin.append_, run_underlying ht, sizeOf, typeInfo, hi, Builtin.lenOf, Builtin.firstCells, hnc, storeCells]
theorem append_lies {w : World} {ops : Array Oper} {rest : List Oper} {o : Oper} {a : Act} {Q : Exit -> Act -> World -> Prop} (hgd : o.guard = none) (s x : Operand)
  (ho : o.op = .call { callee := .builtin .append, args := #[s, x], argTypes := #[24, 24] })
  (base : Nat) (v : Value) (M : List Pt) (hs : a.eval s = v) (hown : w.ownsRow base 23 3 v M.length (fl3 M)) (xv : Value) (L : List Pt) (hx : a.eval x = xv) (hl : Lies w xv L)
  (hN : M.length + L.length < 2199023255552) (hbase : base <= w.heap.size)
  (h : ∀ v' w', w'.ownsRow base 23 3 v' (M ++ L).length (fl3 (M ++ L)) -> w.grownBy w' v.ownBlock -> (v'.ownBlock = v.ownBlock \/ v'.ownBlock = some w.heap.size) -> wpList Tryz.prog ops Q rest (a.put o.dst v') w') :
  wpList Tryz.prog ops Q (o :: rest) a w := by
 obtain ⟨i0, hii, hiz, hisz, hib⟩ := info_parts point_info
 obtain ⟨oo, cap, rfl, hlc, hcm, hc⟩ := hl.form
 rcases Nat.eq_zero_or_pos L.length with h0 | h0
 ·have hL : L = [] := List.length_eq_zero_iff.1 h0
  subst hL
  cases oo with
  | none =>
   refine wpList_plain hgd fun K hK => ?_
   have hrun := none_run (P := Tryz.prog) (w := w) base 24 o.type 23 i0 3 Tryz.underlying24 hii v M.length cap (fl3 M) hown
   unfold Oper.wp
   simp [execOp, ho, resolve, invoke, builtin, hs, hx, hrun, Result.andThen]
   refine hK _ _ (h v w ?_ (below_grown (Below.refl _ _) _) (Or.inl rfl))
   rw [List.append_nil]; exact hown
  | some ad =>
   refine wpList_append_own_at w hgd s x _ ho base 23 i0 _ 3 24 Tryz.underlying24 hii hiz hisz hib rfl (by decide) v M.length (fl3 M) hs hown ad 0 cap [] hx rfl (fun j u e => by simp at e) (fun u e => by simp at e) (by unfold maxLen; omega) (by omega) hbase ?_
   intro v' w' r8 g8 _ s8
   refine h v' w' ?_ g8 s8
   rw [List.append_nil]; simpa using r8
 ·obtain ⟨g, off, rfl, _⟩ := hc 0 h0
  refine wpList_append_own_at w hgd s x _ ho base 23 i0 _ 3 24 Tryz.underlying24 hii hiz hisz hib rfl (by decide) v M.length (fl3 M) hs hown ⟨g, off, none⟩ L.length cap (fl3 L) hx (fl3_length L) (pts_read hl) (fl3_one _) (by unfold maxLen; omega) (by omega) hbase ?_
  intro v' w' r8 g8 _ s8
  refine h v' w' ?_ g8 s8
  rw [fl3_append, List.length_append]; exact r8
end
section
open Go.RowKit Go.Shelf
set_option maxHeartbeats 1000000 in
theorem minus_any (p q : Pt) (w : World) (hp : p.inB 1152921504606846976 = true) (hq : q.inB 1152921504606846976 = true) :
  Calls Tryz.prog 10 #[p.v, q.v] w fun e W => e = .returned (p.sub q).v /\ Below w.heap.size w W := by
 obtain ⟨x, y, z⟩ := p
 obtain ⟨x', y', z'⟩ := q
 rw [Pt.inB_iff] at hp hq
 unfold Pt.v Pt.sub
 dsimp only at *
 go_enter Tryz.func10, Tryz.ntmps10
 go_wp2
 exact bodyPost_ret (v := .agg #[.int .i64 (x - x'), .int .i64 (y - y'), .int .i64 (z - z')]) (by simp [results, Tryz.results10, go_sem]) rfl ⟨rfl, (((Below.refl _ w).alloc (Nat.le_refl _) _).alloc (by simp) _).alloc (by simp; omega) _⟩
set_option maxHeartbeats 1000000 in
theorem rdot_any (p q : Pt) (w : World) (hp : p.inB 34359738368 = true) (hq : q.inB 131072 = true) :
  Calls Tryz.prog 16 #[p.v, q.v] w fun e W => e = .returned (.int .i64 (p.dot q)) /\ Below w.heap.size w W := by
 obtain ⟨x, y, z⟩ := p
 obtain ⟨x', y', z'⟩ := q
 rw [Pt.inB_iff] at hp hq
 unfold Pt.v Pt.dot
 dsimp only at *
 have h1 := prod_in hp.1 hq.1 (by decide)
 have h2 := prod_in hp.2.1 hq.2.1 (by decide)
 have h3 := prod_in hp.2.2 hq.2.2 (by decide)
 clear hp hq
 go_enter Tryz.func16, Tryz.ntmps16
 go_wp2
 go_ret
 exact ⟨rfl, ((Below.refl _ w).alloc (Nat.le_refl _) _).alloc (by simp) _⟩
set_option maxHeartbeats 1000000 in
theorem rcross_any (p q : Pt) (w : World) (hp : p.inB 131072 = true) (hq : q.inB 131072 = true) :
  Calls Tryz.prog 78 #[p.v, q.v] w fun e W => e = .returned (p.cross q).v /\ Below w.heap.size w W := by
 obtain ⟨x, y, z⟩ := p
 obtain ⟨x', y', z'⟩ := q
 rw [Pt.inB_iff] at hp hq
 unfold Pt.v Pt.cross
 dsimp only at *
 have h1 := prod_in hp.2.1 hq.2.2 (by decide)
 have h2 := prod_in hp.2.2 hq.2.1 (by decide)
 have h3 := prod_in hp.2.2 hq.1 (by decide)
 have h4 := prod_in hp.1 hq.2.2 (by decide)
 have h5 := prod_in hp.1 hq.2.1 (by decide)
 have h6 := prod_in hp.2.1 hq.1 (by decide)
 clear hp hq
 go_enter Tryz.func78, Tryz.ntmps78
 go_wp2
 refine bodyPost_ret (v := .agg #[.int .i64 (y * z' - z * y'), .int .i64 (z * x' - x * z'), .int .i64 (x * y' - y * x')]) ?_ rfl ⟨rfl, (((Below.refl _ w).alloc (Nat.le_refl _) _).alloc (by simp) _).alloc (by simp; omega) _⟩
 simp [results, Tryz.results78, go_sem]
set_option maxHeartbeats 4000000 in
set_option maxRecDepth 100000 in
theorem normal_any (a b c : Pt) (w0 : World) (ha : a.inB 65536 = true) (hb : b.inB 65536 = true) (hc : c.inB 65536 = true) :
  Calls Tryz.prog 98 #[a.v, b.v, c.v] w0 fun e W => e = .returned ((b.sub a).cross (c.sub a)).v /\ Below w0.heap.size w0 W := by
 have L1 : Hid _ := fun w' => minus_any b a w' (inB_mono hb (by decide)) (inB_mono ha (by decide))
 have L2 : Hid _ := fun w' => minus_any c a w' (inB_mono hc (by decide)) (inB_mono ha (by decide))
 have L3 : Hid _ := fun w' => rcross_any (b.sub a) (c.sub a) w' (sub_in hb ha) (sub_in hc ha)
 clear ha hb hc
 obtain ⟨ax, ay, az⟩ := a
 obtain ⟨bx, by_, bz⟩ := b
 obtain ⟨cx, cy, cz⟩ := c
 unfold Pt.v Pt.sub Pt.cross at *
 dsimp only at *
 go_enter Tryz.func98, Tryz.ntmps98
 go_wp2_with (fail)
 obtain ⟨V, hV⟩ : ∃ V : World, V = ((((w0.alloc (.cells #[.int .i64 ax, .int .i64 ay, .int .i64 az] 23)).alloc (.cells #[.int .i64 bx, .int .i64 by_, .int .i64 bz] 23)).alloc (.cells #[.int .i64 cx, .int .i64 cy, .int .i64 cz] 23)).alloc (.cells #[.int .i64 0, .int .i64 0, .int .i64 0] 23)) := ⟨_, rfl⟩
 have hBV : Below w0.heap.size w0 V := by rw [hV]; exact (((((Below.refl _ w0).alloc (by simp; try omega) _).alloc (by simp; try omega) _).alloc (by simp; try omega) _).alloc (by simp; try omega) _)
 have V0_0 : V.cell? ⟨w0.heap.size, 0, none⟩ = some (.int .i64 ax) := by rw [hV]; simp [go_sem]
 have V0_1 : V.cell? ⟨w0.heap.size, 1, none⟩ = some (.int .i64 ay) := by rw [hV]; simp [go_sem]
 have V0_2 : V.cell? ⟨w0.heap.size, 2, none⟩ = some (.int .i64 az) := by rw [hV]; simp [go_sem]
 have V1_0 : V.cell? ⟨w0.heap.size + 1, 0, none⟩ = some (.int .i64 bx) := by rw [hV]; simp [go_sem]
 have V1_1 : V.cell? ⟨w0.heap.size + 1, 1, none⟩ = some (.int .i64 by_) := by rw [hV]; simp [go_sem]
 have V1_2 : V.cell? ⟨w0.heap.size + 1, 2, none⟩ = some (.int .i64 bz) := by rw [hV]; simp [go_sem]
 have V2_0 : V.cell? ⟨w0.heap.size + 1 + 1, 0, none⟩ = some (.int .i64 cx) := by rw [hV]; simp [go_sem]
 have V2_1 : V.cell? ⟨w0.heap.size + 1 + 1, 1, none⟩ = some (.int .i64 cy) := by rw [hV]; simp [go_sem]
 have V2_2 : V.cell? ⟨w0.heap.size + 1 + 1, 2, none⟩ = some (.int .i64 cz) := by rw [hV]; simp [go_sem]
 have V3_0 : V.cell? ⟨w0.heap.size + 1 + 1 + 1, 0, none⟩ = some (.int .i64 0) := by rw [hV]; simp [go_sem]
 have V3_1 : V.cell? ⟨w0.heap.size + 1 + 1 + 1, 1, none⟩ = some (.int .i64 0) := by rw [hV]; simp [go_sem]
 have V3_2 : V.cell? ⟨w0.heap.size + 1 + 1 + 1, 2, none⟩ = some (.int .i64 0) := by rw [hV]; simp [go_sem]
 have Vf3_0 : V.frozen? ⟨w0.heap.size + 1 + 1 + 1, 0, none⟩ = false := by rw [hV]; simp [go_sem]
 have Vf3_1 : V.frozen? ⟨w0.heap.size + 1 + 1 + 1, 1, none⟩ = false := by rw [hV]; simp [go_sem]
 have Vf3_2 : V.frozen? ⟨w0.heap.size + 1 + 1 + 1, 2, none⟩ = false := by rw [hV]; simp [go_sem]
 rw [<- hV]
 clear hV
 refine RV.region_by (fun j v w => match j with | 0 => v = .agg #[.int .i64 (bx), .int .i64 (by_), .int .i64 (bz)] | 1 => v = .agg #[.int .i64 (ax), .int .i64 (ay), .int .i64 (az)] | 2 => v = .agg #[.int .i64 (bx - ax), .int .i64 (by_ - ay), .int .i64 (bz - az)] | 3 => v = .agg #[.int .i64 (cx), .int .i64 (cy), .int .i64 (cz)] | 4 => v = .agg #[.int .i64 (ax), .int .i64 (ay), .int .i64 (az)] | 5 => v = .agg #[.int .i64 (cx - ax), .int .i64 (cy - ay), .int .i64 (cz - az)] | 6 => v = .agg #[.int .i64 ((by_ - ay) * (cz - az) - (bz - az) * (cy - ay)), .int .i64 ((bz - az) * (cx - ax) - (bx - ax) * (cz - az)), .int .i64 ((bx - ax) * (cy - ay) - (by_ - ay) * (cx - ax))] | 7 => True | _ => True) (fun γ L w9 => (L 7 = false /\ Below V.heap.size V w9) \/ (L 7 = true /\ ∃ w, Below V.heap.size V w /\ w9 = (((w.setCell ⟨w0.heap.size + 1 + 1 + 1, 0, none⟩ (.int .i64 ((by_ - ay) * (cz - az) - (bz - az) * (cy - ay)))).setCell ⟨w0.heap.size + 1 + 1 + 1, 1, none⟩ (.int .i64 ((bz - az) * (cx - ax) - (bx - ax) * (cz - az)))).setCell ⟨w0.heap.size + 1 + 1 + 1, 2, none⟩ (.int .i64 ((bx - ax) * (cy - ay) - (by_ - ay) * (cx - ax)))))) (by kernel_rfl) (by kernel_rfl) (by kernel_rfl) (by kernel_rfl) ?_ ?_ ?_
 ·exact Or.inl ⟨rfl, (Below.refl _ V).drew⟩
 ·generalize hD : dstOf _ = D
  generalize hWA : waitsFor _ = WA
  generalize hZ : Act.mk _ _ = Z
  refine RV.AllDo.name ?_
  intro R hR
  have d0 : D 0 = some 7 := by rw [<- hD]; rfl
  have d1 : D 1 = some 8 := by rw [<- hD]; rfl
  have d2 : D 2 = some 9 := by rw [<- hD]; rfl
  have d3 : D 3 = some 10 := by rw [<- hD]; rfl
  have d4 : D 4 = some 11 := by rw [<- hD]; rfl
  have d5 : D 5 = some 12 := by rw [<- hD]; rfl
  have d6 : D 6 = some 13 := by rw [<- hD]; rfl
  have r0 : ∀ v w, R 0 v w = (v = .agg #[.int .i64 (bx), .int .i64 (by_), .int .i64 (bz)]) := fun v w => by rw [hR]; rfl
  have r1 : ∀ v w, R 1 v w = (v = .agg #[.int .i64 (ax), .int .i64 (ay), .int .i64 (az)]) := fun v w => by rw [hR]; rfl
  have r2 : ∀ v w, R 2 v w = (v = .agg #[.int .i64 (bx - ax), .int .i64 (by_ - ay), .int .i64 (bz - az)]) := fun v w => by rw [hR]; rfl
  have r3 : ∀ v w, R 3 v w = (v = .agg #[.int .i64 (cx), .int .i64 (cy), .int .i64 (cz)]) := fun v w => by rw [hR]; rfl
  have r4 : ∀ v w, R 4 v w = (v = .agg #[.int .i64 (ax), .int .i64 (ay), .int .i64 (az)]) := fun v w => by rw [hR]; rfl
  have r5 : ∀ v w, R 5 v w = (v = .agg #[.int .i64 (cx - ax), .int .i64 (cy - ay), .int .i64 (cz - az)]) := fun v w => by rw [hR]; rfl
  have r6 : ∀ v w, R 6 v w = (v = .agg #[.int .i64 ((by_ - ay) * (cz - az) - (bz - az) * (cy - ay)), .int .i64 ((bz - az) * (cx - ax) - (bx - ax) * (cz - az)), .int .i64 ((bx - ax) * (cy - ay) - (by_ - ay) * (cx - ax))]) := fun v w => by rw [hR]; rfl
  have r7 : ∀ v w, R 7 v w = (True) := fun v w => by rw [hR]; rfl
  have F3_ : ∀ j, D j ≠ some 3 := by rw [<- hD]; exact RV.dst_free (by kernel_rfl)
  have Z3_ : Z.tmps[3]? = some (.pointer (some ⟨w0.heap.size, 0, none⟩)) := by rw [<- hZ]; rfl
  have F4_ : ∀ j, D j ≠ some 4 := by rw [<- hD]; exact RV.dst_free (by kernel_rfl)
  have Z4_ : Z.tmps[4]? = some (.pointer (some ⟨w0.heap.size + 1, 0, none⟩)) := by rw [<- hZ]; rfl
  have F5_ : ∀ j, D j ≠ some 5 := by rw [<- hD]; exact RV.dst_free (by kernel_rfl)
  have Z5_ : Z.tmps[5]? = some (.pointer (some ⟨w0.heap.size + 1 + 1, 0, none⟩)) := by rw [<- hZ]; rfl
  have F6_ : ∀ j, D j ≠ some 6 := by rw [<- hD]; exact RV.dst_free (by kernel_rfl)
  have Z6_ : Z.tmps[6]? = some (.pointer (some ⟨w0.heap.size + 1 + 1 + 1, 0, none⟩)) := by rw [<- hZ]; rfl
  have K : ∀ j v w w', R j v w -> R j v w' := by rw [hR]; intro j v w w' h; exact h
  have A_7_0 : WA 7 0 := by rw [<- hWA]; exact ⟨_, rfl, ⟨0, .phase⟩, by simp, rfl, rfl⟩
  have A_7_1 : WA 7 1 := by rw [<- hWA]; exact ⟨_, rfl, ⟨1, .phase⟩, by simp, rfl, rfl⟩
  have A_7_2 : WA 7 2 := by rw [<- hWA]; exact ⟨_, rfl, ⟨2, .phase⟩, by simp, rfl, rfl⟩
  have A_7_3 : WA 7 3 := by rw [<- hWA]; exact ⟨_, rfl, ⟨3, .phase⟩, by simp, rfl, rfl⟩
  have A_7_4 : WA 7 4 := by rw [<- hWA]; exact ⟨_, rfl, ⟨4, .phase⟩, by simp, rfl, rfl⟩
  have A_7_5 : WA 7 5 := by rw [<- hWA]; exact ⟨_, rfl, ⟨5, .phase⟩, by simp, rfl, rfl⟩
  have A_7_6 : WA 7 6 := by rw [<- hWA]; exact ⟨_, rfl, ⟨6, .phase⟩, by simp, rfl, rfl⟩
  clear hD hWA hZ hR
  refine RV.cc 0 (RV.dp (fun γ v L w hl h => by rw [RV.mn (L := L) (i := 0) (j := 7) (by decide)]; exact h) (fun γ L a w hH hl hA => by have e0 := ((hH.rest 4 F4_).trans Z4_); have hB9 := early9 hH.glob (RV.ny hH A_7_0 hl); have z0 := c_after hB9 V1_0; have z1 := c_after hB9 V1_1; have z2 := c_after hB9 V1_2; exact ⟨.agg #[.int .i64 (bx), .int .i64 (by_), .int .i64 (bz)], by simp [execOp, go_sem, e0, z0, z1, z2], (r0 _ _).mpr rfl⟩)) ?_
  refine RV.cc 1 (RV.dp (fun γ v L w hl h => by rw [RV.mn (L := L) (i := 1) (j := 7) (by decide)]; exact h) (fun γ L a w hH hl hA => by have e0 := ((hH.rest 3 F3_).trans Z3_); have hB9 := early9 hH.glob (RV.ny hH A_7_1 hl); have z0 := c_after hB9 V0_0; have z1 := c_after hB9 V0_1; have z2 := c_after hB9 V0_2; exact ⟨.agg #[.int .i64 (ax), .int .i64 (ay), .int .i64 (az)], by simp [execOp, go_sem, e0, z0, z1, z2], (r1 _ _).mpr rfl⟩)) ?_
  refine RV.cc 2 (RV.dc (fun γ L a w hH hl hA => by have e0 := hH.got d0 r0 (hA ⟨0, .data⟩ (by simp) rfl); have e1 := hH.got d1 r1 (hA ⟨1, .data⟩ (by simp) rfl); have hB9 := early9 hH.glob (RV.ny hH A_7_2 hl); exact ⟨10, #[.agg #[.int .i64 (bx), .int .i64 (by_), .int .i64 (bz)], .agg #[.int .i64 (ax), .int .i64 (ay), .int .i64 (az)]], by simp [go_sem, e0, e1], Calls.mono (L1.out w) (by rintro e w2 ⟨rfl, hb⟩; exact ⟨_, rfl, (r2 _ _).mpr rfl, fun j v _ h => K j v _ _ h, Or.inl ⟨by rw [RV.mn (L := L) (i := 2) (j := 7) (by decide)]; exact RV.ny hH A_7_2 hl, hB9.trans (hb.mono hB9.size)⟩⟩)⟩)) ?_
  refine RV.cc 3 (RV.dp (fun γ v L w hl h => by rw [RV.mn (L := L) (i := 3) (j := 7) (by decide)]; exact h) (fun γ L a w hH hl hA => by have e0 := ((hH.rest 5 F5_).trans Z5_); have hB9 := early9 hH.glob (RV.ny hH A_7_3 hl); have z0 := c_after hB9 V2_0; have z1 := c_after hB9 V2_1; have z2 := c_after hB9 V2_2; exact ⟨.agg #[.int .i64 (cx), .int .i64 (cy), .int .i64 (cz)], by simp [execOp, go_sem, e0, z0, z1, z2], (r3 _ _).mpr rfl⟩)) ?_
  refine RV.cc 4 (RV.dp (fun γ v L w hl h => by rw [RV.mn (L := L) (i := 4) (j := 7) (by decide)]; exact h) (fun γ L a w hH hl hA => by have e0 := ((hH.rest 3 F3_).trans Z3_); have hB9 := early9 hH.glob (RV.ny hH A_7_4 hl); have z0 := c_after hB9 V0_0; have z1 := c_after hB9 V0_1; have z2 := c_after hB9 V0_2; exact ⟨.agg #[.int .i64 (ax), .int .i64 (ay), .int .i64 (az)], by simp [execOp, go_sem, e0, z0, z1, z2], (r4 _ _).mpr rfl⟩)) ?_
  refine RV.cc 5 (RV.dc (fun γ L a w hH hl hA => by have e0 := hH.got d3 r3 (hA ⟨3, .data⟩ (by simp) rfl); have e1 := hH.got d4 r4 (hA ⟨4, .data⟩ (by simp) rfl); have hB9 := early9 hH.glob (RV.ny hH A_7_5 hl); exact ⟨10, #[.agg #[.int .i64 (cx), .int .i64 (cy), .int .i64 (cz)], .agg #[.int .i64 (ax), .int .i64 (ay), .int .i64 (az)]], by simp [go_sem, e0, e1], Calls.mono (L2.out w) (by rintro e w2 ⟨rfl, hb⟩; exact ⟨_, rfl, (r5 _ _).mpr rfl, fun j v _ h => K j v _ _ h, Or.inl ⟨by rw [RV.mn (L := L) (i := 5) (j := 7) (by decide)]; exact RV.ny hH A_7_5 hl, hB9.trans (hb.mono hB9.size)⟩⟩)⟩)) ?_
  refine RV.cc 6 (RV.dc (fun γ L a w hH hl hA => by have e0 := hH.got d2 r2 (hA ⟨2, .data⟩ (by simp) rfl); have e1 := hH.got d5 r5 (hA ⟨5, .data⟩ (by simp) rfl); have hB9 := early9 hH.glob (RV.ny hH A_7_6 hl); exact ⟨78, #[.agg #[.int .i64 (bx - ax), .int .i64 (by_ - ay), .int .i64 (bz - az)], .agg #[.int .i64 (cx - ax), .int .i64 (cy - ay), .int .i64 (cz - az)]], by simp [go_sem, e0, e1], Calls.mono (L3.out w) (by rintro e w2 ⟨rfl, hb⟩; exact ⟨_, rfl, (r6 _ _).mpr rfl, fun j v _ h => K j v _ _ h, Or.inl ⟨by rw [RV.mn (L := L) (i := 6) (j := 7) (by decide)]; exact RV.ny hH A_7_6 hl, hB9.trans (hb.mono hB9.size)⟩⟩)⟩)) ?_
  refine RV.cc 7 (RV.does_store (fun γ L a w hH hl hA => by have e0 := ((hH.rest 6 F6_).trans Z6_); have e1 := hH.got d6 r6 (hA ⟨6, .data⟩ (by simp) rfl); have hB9 := early9 hH.glob hl; have z0 := c_after hB9 V3_0; have zf0 := f_after hB9 V3_0 Vf3_0; have z1 := c_after hB9 V3_1; have zf1 := f_after hB9 V3_1 Vf3_1; have z2 := c_after hB9 V3_2; have zf2 := f_after hB9 V3_2 Vf3_2; exact ⟨(((w.setCell ⟨w0.heap.size + 1 + 1 + 1, 0, none⟩ (.int .i64 ((by_ - ay) * (cz - az) - (bz - az) * (cy - ay)))).setCell ⟨w0.heap.size + 1 + 1 + 1, 1, none⟩ (.int .i64 ((bz - az) * (cx - ax) - (bx - ax) * (cz - az)))).setCell ⟨w0.heap.size + 1 + 1 + 1, 2, none⟩ (.int .i64 ((bx - ax) * (cy - ay) - (by_ - ay) * (cx - ax)))), by simp [execOp, go_sem, e0, e1, z0, zf0, z1, zf1, z2, zf2], (r7 _ _).mpr trivial, fun j v _ h => K j v _ _ h, Or.inr ⟨RV.more_self, w, hB9, rfl⟩⟩)) ?_
  exact RV.AllDo.nil
 ·intro γ a5 w5 L9 hL hLo hH
  have ha := RV.held_act hH hL (by kernel_rfl) (by kernel_rfl)
  obtain ⟨w8, hb8, rfl⟩ := late9 hH.glob (hL 7 (by decide))
  have y0 : γ 0 = .agg #[.int .i64 (bx), .int .i64 (by_), .int .i64 (bz)] := hH.holds 0 (hL 0 (by decide))
  have y1 : γ 1 = .agg #[.int .i64 (ax), .int .i64 (ay), .int .i64 (az)] := hH.holds 1 (hL 1 (by decide))
  have y2 : γ 2 = .agg #[.int .i64 (bx - ax), .int .i64 (by_ - ay), .int .i64 (bz - az)] := hH.holds 2 (hL 2 (by decide))
  have y3 : γ 3 = .agg #[.int .i64 (cx), .int .i64 (cy), .int .i64 (cz)] := hH.holds 3 (hL 3 (by decide))
  have y4 : γ 4 = .agg #[.int .i64 (ax), .int .i64 (ay), .int .i64 (az)] := hH.holds 4 (hL 4 (by decide))
  have y5 : γ 5 = .agg #[.int .i64 (cx - ax), .int .i64 (cy - ay), .int .i64 (cz - az)] := hH.holds 5 (hL 5 (by decide))
  have y6 : γ 6 = .agg #[.int .i64 ((by_ - ay) * (cz - az) - (bz - az) * (cy - ay)), .int .i64 ((bz - az) * (cx - ax) - (bx - ax) * (cz - az)), .int .i64 ((bx - ax) * (cy - ay) - (by_ - ay) * (cx - ax))] := hH.holds 6 (hL 6 (by decide))
  rw [ha]
  clear ha hH hL hLo
  simp only [RV.putAll, Act.put, List.setIfInBounds_toArray, List.set_cons_zero, List.set_cons_succ, Nat.zero_add, Nat.reduceAdd, y0, y1, y2, y3, y4, y5, y6]
  clear y0 y1 y2 y3 y4 y5 y6
  have q0 := c_after hb8 V3_0
  have q1 := c_after hb8 V3_1
  have q2 := c_after hb8 V3_2
  go_wp2
  refine bodyPost_ret (v := .agg #[.int .i64 ((by_ - ay) * (cz - az) - (bz - az) * (cy - ay)), .int .i64 ((bz - az) * (cx - ax) - (bx - ax) * (cz - az)), .int .i64 ((bx - ax) * (cy - ay) - (by_ - ay) * (cx - ax))]) (by simp [results, Tryz.results98, go_sem, q0, q1, q2]) rfl ⟨rfl, ?_⟩
  exact ((((hBV.trans (hb8.mono hBV.size)).setCell (by simp; omega) _).setCell (by simp; omega) _).setCell (by simp; omega) _)
def inP (p : Pt) (lo hi : Int) : Bool := inR p.x lo hi && (inR p.y lo hi && inR p.z lo hi)
theorem inP_sym (p : Pt) (m : Int) : inP p (-m) m = p.inB m := by rw [Bool.eq_iff_iff, Pt.inB_iff]; simp [inP, inR]
set_option maxHeartbeats 1000000 in
theorem rwithin_any (p : Pt) (lo hi : Int) (w0 : World) :
  Calls Tryz.prog 130 #[p.v, .int .i64 lo, .int .i64 hi] w0 fun e W => e = .returned (.bool (inP p lo hi)) /\ Below w0.heap.size w0 W := by
 obtain ⟨x, y, z⟩ := p
 unfold Pt.v inP
 dsimp only
 cases hx : inR x lo hi with
 | false =>
  go_enter Tryz.func130, Tryz.ntmps130
  go_wp2_with (fail)
  refine Calls.mono (rin_is x lo hi _ false hx) ?_
  rintro e w' ⟨rfl, rfl⟩
  go_wp2_with (fail)
  go_ret
  exact ⟨rfl, n_after w0 _⟩
 | true =>
  cases hy : inR y lo hi with
  | false =>
   go_enter Tryz.func130, Tryz.ntmps130
   go_wp2_with (fail)
   refine Calls.mono (rin_is x lo hi _ true hx) ?_
   rintro e w' ⟨rfl, rfl⟩
   go_wp2_with (fail)
   refine Calls.mono (rin_is y lo hi _ false hy) ?_
   rintro e w' ⟨rfl, rfl⟩
   go_wp2_with (fail)
   go_ret
   exact ⟨rfl, n_after w0 _⟩
  | true =>
   cases hz : inR z lo hi with
   | false =>
    go_enter Tryz.func130, Tryz.ntmps130
    go_wp2_with (fail)
    refine Calls.mono (rin_is x lo hi _ true hx) ?_
    rintro e w' ⟨rfl, rfl⟩
    go_wp2_with (fail)
    refine Calls.mono (rin_is y lo hi _ true hy) ?_
    rintro e w' ⟨rfl, rfl⟩
    go_wp2_with (fail)
    refine Calls.mono (rin_is z lo hi _ false hz) ?_
    rintro e w' ⟨rfl, rfl⟩
    go_wp2_with (fail)
    go_ret
    exact ⟨rfl, n_after w0 _⟩
   | true =>
    go_enter Tryz.func130, Tryz.ntmps130
    go_wp2_with (fail)
    refine Calls.mono (rin_is x lo hi _ true hx) ?_
    rintro e w' ⟨rfl, rfl⟩
    go_wp2_with (fail)
    refine Calls.mono (rin_is y lo hi _ true hy) ?_
    rintro e w' ⟨rfl, rfl⟩
    go_wp2_with (fail)
    refine Calls.mono (rin_is z lo hi _ true hz) ?_
    rintro e w' ⟨rfl, rfl⟩
    go_wp2_with (fail)
    go_ret
    exact ⟨rfl, n_after w0 _⟩
end
section
open Go.RowKit Go.Shelf
theorem arr3 {cs : Array Value} (h : cs.size = 3) : ∃ a b c, cs = #[a, b, c] := by
 obtain ⟨l⟩ := cs
 match l, h with
 | [a, b, c], _ => exact ⟨a, b, c, rfl⟩
set_option maxHeartbeats 2000000 in
set_option maxRecDepth 100000 in
theorem rflat_any (v : Value) (Ls : List Pt) (w0 : World) (hv : Lies w0 v Ls) (h4 : 4 <= Ls.length) (h12 : Ls.length <= 12) (hin : ∀ p ∈ Ls, p.inB 65536 = true) (hne : pt Ls 0 ≠ pt Ls 1) :
  Calls Tryz.prog 97 #[v] w0 fun e W => e = .returned (.bool (flatP Ls)) /\ Below w0.heap.size w0 W := by
 obtain ⟨o, c, rfl, hlc, hcm, hcell⟩ := hv.form
 have HC : Hid _ := hcell
 have HIN : Hid _ := hin
 obtain ⟨g, off, rfl, _, _, _⟩ := hcell 0 (by omega)
 clear hcell hv hin
 have HF : Hid _ := flatR_iff (show 2 <= Ls.length by omega) hne
 clear hne
 obtain ⟨R, hR⟩ : ∃ R, flatP Ls = R := ⟨_, rfl⟩
 rw [hR] at HF ⊢
 clear hR
 go_enter Tryz.func97, Tryz.ntmps97
 go_wp2_with (fail)
 go_loopg [3] Ls.length (fun gm s wr => ∃ i : Nat, s = .int .i64 (i : Int) /\ i <= Ls.length /\ gm = Ls.length - i /\ Hid (∀ i' k m q, i' < i -> m < k -> k < i' -> q < Ls.length -> vol (pt Ls m) (pt Ls k) (pt Ls i') (pt Ls q) = 0) /\ Hid (Below w0.heap.size w0 wr))
 case atStart => exact ⟨0, rfl, Nat.zero_le _, rfl, fun i' k m q h => absurd h (Nat.not_lt_zero _), Below.refl _ _⟩
 case round =>
  obtain ⟨i, rfl, hi, hgm, HA, HBi⟩ := hrel
  have HG1 : Hid _ := hgm
  clear hgm
  by_cases hit : i < Ls.length
  ·go_wp2_with (fail)
   go_loopg [4] i (fun gm s wr => ∃ k : Nat, s = .int .i64 (k : Int) /\ k <= i /\ gm = i - k /\ Hid (∀ k' m q, k' < k -> m < k' -> q < Ls.length -> vol (pt Ls m) (pt Ls k') (pt Ls i) (pt Ls q) = 0) /\ Hid (Below w0.heap.size w0 wr))
   case atStart => exact ⟨0, rfl, Nat.zero_le _, rfl, fun k' m q h => absurd h (Nat.not_lt_zero _), HBi⟩
   case round =>
    clear HBi
    obtain ⟨k, rfl, hk, hgm, HA2, HBk⟩ := hrel
    have HG2 : Hid _ := hgm
    clear hgm
    by_cases hkt : k < i
    ·have hkl : k < Ls.length := by omega
     go_wp2_with (fail)
     go_loopg [5] k (fun gm s wr => ∃ m : Nat, s = .int .i64 (m : Int) /\ m <= k /\ gm = k - m /\ Hid (∀ m' q, m' < m -> q < Ls.length -> vol (pt Ls m') (pt Ls k) (pt Ls i) (pt Ls q) = 0) /\ Hid (Below w0.heap.size w0 wr))
     case atStart => exact ⟨0, rfl, Nat.zero_le _, rfl, fun m' q h => absurd h (Nat.not_lt_zero _), HBk⟩
     case round =>
      clear HBk
      obtain ⟨m, rfl, hm, hgm, HA3, HBm⟩ := hrel
      have HG3 : Hid _ := hgm
      clear hgm
      by_cases hmt : m < k
      ·have hml : m < Ls.length := by omega
       obtain ⟨g', off', e', x0, x1, x2⟩ := HC.out i hit
       simp only [Option.some.injEq, Addr.mk.injEq, and_true] at e'
       obtain ⟨rfl, rfl⟩ := e'
       obtain ⟨g', off', e', y0, y1, y2⟩ := HC.out k hkl
       simp only [Option.some.injEq, Addr.mk.injEq, and_true] at e'
       obtain ⟨rfl, rfl⟩ := e'
       obtain ⟨g', off', e', z0, z1, z2⟩ := HC.out m hml
       simp only [Option.some.injEq, Addr.mk.injEq, and_true] at e'
       obtain ⟨rfl, rfl⟩ := e'
       have x0 := c_after HBm.out x0
       have x1 := c_after HBm.out x1
       have x2 := c_after HBm.out x2
       have y0 := c_after HBm.out y0
       have y1 := c_after HBm.out y1
       have y2 := c_after HBm.out y2
       have HZ : Hid _ := And.intro z0 (And.intro z1 z2)
       have z0 := c_after HBm.out z0
       have z1 := c_after HBm.out z1
       have z2 := c_after HBm.out z2
       have hain := HIN.out _ (pt_mem hml)
       have hbin := HIN.out _ (pt_mem hkl)
       have hcin := HIN.out _ (pt_mem hit)
       have HM : Hid ((∃ q, q < Ls.length /\ vol (pt Ls m) (pt Ls k) (pt Ls i) (pt Ls q) ≠ 0) -> R = false) := fun ⟨q, h1, h2⟩ => by
        cases R with
        | false => rfl
        | true => exact absurd (HF.out.2 rfl i k m q hmt hkt hit h1) h2
       have HS3 : Hid ((∀ q, q < Ls.length -> vol (pt Ls m) (pt Ls k) (pt Ls i) (pt Ls q) = 0) -> ∀ m' q, m' < m + 1 -> q < Ls.length -> vol (pt Ls m') (pt Ls k) (pt Ls i) (pt Ls q) = 0) := fun h m' q h1 h2 => by
        by_cases e : m' = m
        ·subst e; exact h q h2
        ·exact HA3.out m' q (by omega) h2
       generalize pt Ls i = pc at *
       generalize pt Ls k = pb at *
       generalize pt Ls m = pa at *
       have L3 : Hid _ := fun w' => normal_any pa pb pc w' hain hbin hcin
       have hnin := cross_in (sub_in hbin hain) (sub_in hcin hain)
       have HVO : Hid (∀ q, vol pa pb pc q = ((pb.sub pa).cross (pc.sub pa)).dot (q.sub pa)) := fun q => rfl
       generalize (pb.sub pa).cross (pc.sub pa) = n at *
       unfold Pt.v at L3
       have hiz : (i : Int) < (Ls.length : Int) := by omega
       have hkz : (k : Int) < (Ls.length : Int) := by omega
       have hmz : (m : Int) < (Ls.length : Int) := by omega
       go_upto_region 10 with fail
       refine RV.region_by (fun j v w => match j with | 0 => v = .slice (some ⟨g, off, none⟩) Ls.length c | 1 => v = .int .i64 (m : Int) | 2 => v = .pointer (some ⟨g, off + m * 3, none⟩) | 3 => v = .agg #[.int .i64 pa.x, .int .i64 pa.y, .int .i64 pa.z] | 4 => v = .slice (some ⟨g, off, none⟩) Ls.length c | 5 => v = .int .i64 (k : Int) | 6 => v = .pointer (some ⟨g, off + k * 3, none⟩) | 7 => v = .agg #[.int .i64 pb.x, .int .i64 pb.y, .int .i64 pb.z] | 8 => v = .slice (some ⟨g, off, none⟩) Ls.length c | 9 => v = .int .i64 (i : Int) | 10 => v = .pointer (some ⟨g, off + i * 3, none⟩) | 11 => v = .agg #[.int .i64 pc.x, .int .i64 pc.y, .int .i64 pc.z] | 12 => v = .agg #[.int .i64 n.x, .int .i64 n.y, .int .i64 n.z] | 13 => True | 14 => True | _ => True) (fun γ L w => Below wr.heap.size wr w /\ RV.Pend wr 23 13 14 #[.int .i64 n.x, .int .i64 n.y, .int .i64 n.z] γ L w) (by kernel_rfl) (by kernel_rfl) (by kernel_rfl) (by kernel_rfl) ?_ ?_ ?_
       ·exact ⟨(Below.refl _ wr).drew, RV.Pend.start rfl⟩
       ·generalize hD : dstOf _ = D
        generalize hWA : waitsFor _ = WA
        generalize hZ : Act.mk _ _ = Z
        refine RV.AllDo.name ?_
        intro R hR
        have d0 : D 0 = some 24 := by rw [<- hD]; rfl
        have d1 : D 1 = some 25 := by rw [<- hD]; rfl
        have d2 : D 2 = some 26 := by rw [<- hD]; rfl
        have d3 : D 3 = some 27 := by rw [<- hD]; rfl
        have d4 : D 4 = some 28 := by rw [<- hD]; rfl
        have d5 : D 5 = some 29 := by rw [<- hD]; rfl
        have d6 : D 6 = some 30 := by rw [<- hD]; rfl
        have d7 : D 7 = some 31 := by rw [<- hD]; rfl
        have d8 : D 8 = some 32 := by rw [<- hD]; rfl
        have d9 : D 9 = some 33 := by rw [<- hD]; rfl
        have d10 : D 10 = some 34 := by rw [<- hD]; rfl
        have d11 : D 11 = some 35 := by rw [<- hD]; rfl
        have d12 : D 12 = some 36 := by rw [<- hD]; rfl
        have d13 : D 13 = some 6 := by rw [<- hD]; rfl
        have r0 : ∀ v w, R 0 v w = (v = .slice (some ⟨g, off, none⟩) Ls.length c) := fun v w => by rw [hR]; rfl
        have r1 : ∀ v w, R 1 v w = (v = .int .i64 (m : Int)) := fun v w => by rw [hR]; rfl
        have r2 : ∀ v w, R 2 v w = (v = .pointer (some ⟨g, off + m * 3, none⟩)) := fun v w => by rw [hR]; rfl
        have r3 : ∀ v w, R 3 v w = (v = .agg #[.int .i64 pa.x, .int .i64 pa.y, .int .i64 pa.z]) := fun v w => by rw [hR]; rfl
        have r4 : ∀ v w, R 4 v w = (v = .slice (some ⟨g, off, none⟩) Ls.length c) := fun v w => by rw [hR]; rfl
        have r5 : ∀ v w, R 5 v w = (v = .int .i64 (k : Int)) := fun v w => by rw [hR]; rfl
        have r6 : ∀ v w, R 6 v w = (v = .pointer (some ⟨g, off + k * 3, none⟩)) := fun v w => by rw [hR]; rfl
        have r7 : ∀ v w, R 7 v w = (v = .agg #[.int .i64 pb.x, .int .i64 pb.y, .int .i64 pb.z]) := fun v w => by rw [hR]; rfl
        have r8 : ∀ v w, R 8 v w = (v = .slice (some ⟨g, off, none⟩) Ls.length c) := fun v w => by rw [hR]; rfl
        have r9 : ∀ v w, R 9 v w = (v = .int .i64 (i : Int)) := fun v w => by rw [hR]; rfl
        have r10 : ∀ v w, R 10 v w = (v = .pointer (some ⟨g, off + i * 3, none⟩)) := fun v w => by rw [hR]; rfl
        have r11 : ∀ v w, R 11 v w = (v = .agg #[.int .i64 pc.x, .int .i64 pc.y, .int .i64 pc.z]) := fun v w => by rw [hR]; rfl
        have r12 : ∀ v w, R 12 v w = (v = .agg #[.int .i64 n.x, .int .i64 n.y, .int .i64 n.z]) := fun v w => by rw [hR]; rfl
        have r13 : ∀ v w, R 13 v w = (True) := fun v w => by rw [hR]; rfl
        have r14 : ∀ v w, R 14 v w = (True) := fun v w => by rw [hR]; rfl
        have F0_ : ∀ j, D j ≠ some 0 := by rw [<- hD]; exact RV.dst_free (by kernel_rfl)
        have Z0_ : Z.tmps[0]? = some (.slice (some ⟨g, off, none⟩) Ls.length c) := by rw [<- hZ]; rfl
        have F3_ : ∀ j, D j ≠ some 3 := by rw [<- hD]; exact RV.dst_free (by kernel_rfl)
        have Z3_ : Z.tmps[3]? = some (.int .i64 (i : Int)) := by rw [<- hZ]; rfl
        have F4_ : ∀ j, D j ≠ some 4 := by rw [<- hD]; exact RV.dst_free (by kernel_rfl)
        have Z4_ : Z.tmps[4]? = some (.int .i64 (k : Int)) := by rw [<- hZ]; rfl
        have F5_ : ∀ j, D j ≠ some 5 := by rw [<- hD]; exact RV.dst_free (by kernel_rfl)
        have Z5_ : Z.tmps[5]? = some (.int .i64 (m : Int)) := by rw [<- hZ]; rfl
        have K : ∀ j v w w', R j v w -> R j v w' := by rw [hR]; intro j v w w' h; exact h
        have A_14_13 : WA 14 13 := by rw [<- hWA]; exact ⟨_, rfl, ⟨13, .data⟩, by simp, rfl, rfl⟩
        clear hD hWA hZ hR
        refine RV.cc 0 (RV.dp (fun γ v L w hl h => ⟨h.1, h.2.other v (by decide) (by decide)⟩) (fun γ L a w hH hl hA => by have e0 := ((hH.rest 0 F0_).trans Z0_); exact ⟨.slice (some ⟨g, off, none⟩) Ls.length c, by simp [execOp, go_sem, e0], (r0 _ _).mpr rfl⟩)) ?_
        refine RV.cc 1 (RV.dp (fun γ v L w hl h => ⟨h.1, h.2.other v (by decide) (by decide)⟩) (fun γ L a w hH hl hA => by have e0 := ((hH.rest 5 F5_).trans Z5_); exact ⟨.int .i64 (m : Int), by simp [execOp, go_sem, e0], (r1 _ _).mpr rfl⟩)) ?_
        refine RV.cc 2 (RV.dp (fun γ v L w hl h => ⟨h.1, h.2.other v (by decide) (by decide)⟩) (fun γ L a w hH hl hA => by have e0 := hH.got d0 r0 (hA ⟨0, .data⟩ (by simp) rfl); have e1 := hH.got d1 r1 (hA ⟨1, .data⟩ (by simp) rfl); exact ⟨.pointer (some ⟨g, off + m * 3, none⟩), by simp [execOp, go_sem, e0, e1, hmz], (r2 _ _).mpr rfl⟩)) ?_
        refine RV.cc 3 (RV.dp (fun γ v L w hl h => ⟨h.1, h.2.other v (by decide) (by decide)⟩) (fun γ L a w hH hl hA => by have e0 := hH.got d2 r2 (hA ⟨2, .data⟩ (by simp) rfl); have v0 := c_after hH.glob.1 z0; have v1 := c_after hH.glob.1 z1; have v2 := c_after hH.glob.1 z2; exact ⟨.agg #[.int .i64 pa.x, .int .i64 pa.y, .int .i64 pa.z], by simp [execOp, go_sem, e0, v0, v1, v2], (r3 _ _).mpr rfl⟩)) ?_
        refine RV.cc 4 (RV.dp (fun γ v L w hl h => ⟨h.1, h.2.other v (by decide) (by decide)⟩) (fun γ L a w hH hl hA => by have e0 := ((hH.rest 0 F0_).trans Z0_); exact ⟨.slice (some ⟨g, off, none⟩) Ls.length c, by simp [execOp, go_sem, e0], (r4 _ _).mpr rfl⟩)) ?_
        refine RV.cc 5 (RV.dp (fun γ v L w hl h => ⟨h.1, h.2.other v (by decide) (by decide)⟩) (fun γ L a w hH hl hA => by have e0 := ((hH.rest 4 F4_).trans Z4_); exact ⟨.int .i64 (k : Int), by simp [execOp, go_sem, e0], (r5 _ _).mpr rfl⟩)) ?_
        refine RV.cc 6 (RV.dp (fun γ v L w hl h => ⟨h.1, h.2.other v (by decide) (by decide)⟩) (fun γ L a w hH hl hA => by have e0 := hH.got d4 r4 (hA ⟨4, .data⟩ (by simp) rfl); have e1 := hH.got d5 r5 (hA ⟨5, .data⟩ (by simp) rfl); exact ⟨.pointer (some ⟨g, off + k * 3, none⟩), by simp [execOp, go_sem, e0, e1, hkz], (r6 _ _).mpr rfl⟩)) ?_
        refine RV.cc 7 (RV.dp (fun γ v L w hl h => ⟨h.1, h.2.other v (by decide) (by decide)⟩) (fun γ L a w hH hl hA => by have e0 := hH.got d6 r6 (hA ⟨6, .data⟩ (by simp) rfl); have v0 := c_after hH.glob.1 y0; have v1 := c_after hH.glob.1 y1; have v2 := c_after hH.glob.1 y2; exact ⟨.agg #[.int .i64 pb.x, .int .i64 pb.y, .int .i64 pb.z], by simp [execOp, go_sem, e0, v0, v1, v2], (r7 _ _).mpr rfl⟩)) ?_
        refine RV.cc 8 (RV.dp (fun γ v L w hl h => ⟨h.1, h.2.other v (by decide) (by decide)⟩) (fun γ L a w hH hl hA => by have e0 := ((hH.rest 0 F0_).trans Z0_); exact ⟨.slice (some ⟨g, off, none⟩) Ls.length c, by simp [execOp, go_sem, e0], (r8 _ _).mpr rfl⟩)) ?_
        refine RV.cc 9 (RV.dp (fun γ v L w hl h => ⟨h.1, h.2.other v (by decide) (by decide)⟩) (fun γ L a w hH hl hA => by have e0 := ((hH.rest 3 F3_).trans Z3_); exact ⟨.int .i64 (i : Int), by simp [execOp, go_sem, e0], (r9 _ _).mpr rfl⟩)) ?_
        refine RV.cc 10 (RV.dp (fun γ v L w hl h => ⟨h.1, h.2.other v (by decide) (by decide)⟩) (fun γ L a w hH hl hA => by have e0 := hH.got d8 r8 (hA ⟨8, .data⟩ (by simp) rfl); have e1 := hH.got d9 r9 (hA ⟨9, .data⟩ (by simp) rfl); exact ⟨.pointer (some ⟨g, off + i * 3, none⟩), by simp [execOp, go_sem, e0, e1, hiz], (r10 _ _).mpr rfl⟩)) ?_
        refine RV.cc 11 (RV.dp (fun γ v L w hl h => ⟨h.1, h.2.other v (by decide) (by decide)⟩) (fun γ L a w hH hl hA => by have e0 := hH.got d10 r10 (hA ⟨10, .data⟩ (by simp) rfl); have v0 := c_after hH.glob.1 x0; have v1 := c_after hH.glob.1 x1; have v2 := c_after hH.glob.1 x2; exact ⟨.agg #[.int .i64 pc.x, .int .i64 pc.y, .int .i64 pc.z], by simp [execOp, go_sem, e0, v0, v1, v2], (r11 _ _).mpr rfl⟩)) ?_
        refine RV.cc 12 (RV.dc (fun γ L a w hH hl hA => by have e0 := hH.got d3 r3 (hA ⟨3, .data⟩ (by simp) rfl); have e1 := hH.got d7 r7 (hA ⟨7, .data⟩ (by simp) rfl); have e2 := hH.got d11 r11 (hA ⟨11, .data⟩ (by simp) rfl); exact ⟨98, #[.agg #[.int .i64 pa.x, .int .i64 pa.y, .int .i64 pa.z], .agg #[.int .i64 pb.x, .int .i64 pb.y, .int .i64 pb.z], .agg #[.int .i64 pc.x, .int .i64 pc.y, .int .i64 pc.z]], by simp [go_sem, e0, e1, e2], Calls.mono (L3.out w) (by rintro e w2 ⟨rfl, hb⟩; exact ⟨_, rfl, (r12 _ _).mpr rfl, fun j v _ h => K j v _ _ h, hH.glob.1.trans (hb.mono hH.glob.1.size), (hH.glob.2.below hb).other _ (by decide) (by decide)⟩)⟩)) ?_
        refine RV.cc 13 (RV.does_step (fun γ L a w hH hl hA => by have h10 : L 14 = false := RV.ny hH A_14_13 hl; exact ⟨.pointer (some ⟨w.heap.size, 0, none⟩), w.alloc (.cells #[.int .i64 0, .int .i64 0, .int .i64 0] 23), by simp [execOp, go_sem], (r13 _ _).mpr trivial, fun j v _ h => K j v _ _ h, hH.glob.1.alloc hH.glob.1.size _, RV.Pend.made _ rfl hH.glob.1.size h10 (by decide)⟩)) ?_
        refine RV.cc 14 (RV.does_store (fun γ L a w hH hl hA => by have l0 : L 13 = true := hA ⟨13, .data⟩ (by simp) rfl; have e0 := hH.slot 13 6 d13 l0; have g0 := hH.holds 13 l0; rw [r13] at g0; have e1 := hH.got d12 r12 (hA ⟨12, .data⟩ (by simp) rfl); obtain ⟨b, cs, hb1, hb2, hb3, hb4, _⟩ := hH.glob.2 l0; rw [hb1] at e0; obtain ⟨u0, u1, u2, rfl⟩ := arr3 hb4; have z09 : w.cell? ⟨b, 0, none⟩ = some u0 := (by simp [World.cell?, hb3]); have z19 : w.cell? ⟨b, 1, none⟩ = some u1 := (by simp [World.cell?, hb3]); have z29 : w.cell? ⟨b, 2, none⟩ = some u2 := (by simp [World.cell?, hb3]); have zf : ∀ o, w.frozen? ⟨b, o, none⟩ = false := fun o => (by simp [World.frozen?, hb3]); exact ⟨(((w.setCell ⟨b, 0, none⟩ (.int .i64 n.x)).setCell ⟨b, 1, none⟩ (.int .i64 n.y)).setCell ⟨b, 2, none⟩ (.int .i64 n.z)), by simp [execOp, go_sem, e0, e1, z09, z19, z29, zf], (r14 _ _).mpr trivial, fun j v _ h => K j v _ _ h, ((hH.glob.1.setCell hb2 _).setCell hb2 _).setCell hb2 _, RV.Pend.filled hb1 hb2 (by have q0 := Go.heap_setCell_same w b 0 _ _ (.int .i64 n.x) hb3; have q1 := Go.heap_setCell_same _ b 1 _ _ (.int .i64 n.y) q0; have q2 := Go.heap_setCell_same _ b 2 _ _ (.int .i64 n.z) q1; simpa using q2) (by decide) _⟩)) ?_
        exact RV.AllDo.nil
       ·intro γ a5 w5 L9 hL hLo hH
        have ha := RV.held_act hH hL (by kernel_rfl) (by kernel_rfl)
        obtain ⟨bn, cs, hb1, hb2, hb3, _, hb5⟩ := hH.glob.2 (hL 13 (by decide))
        rw [hb5 (hL 14 (by decide))] at hb3
        have hB5 := hH.glob.1
        rw [ha]
        clear ha hH hL hLo hb5
        simp only [RV.putAll, Act.put, List.setIfInBounds_toArray, List.set_cons_zero, List.set_cons_succ, Nat.zero_add, Nat.reduceAdd]
        rw [hb1]
        obtain ⟨W5, hW5⟩ : ∃ X : World, X = w5 := ⟨_, rfl⟩
        rw [<- hW5] at hB5 hb3 ⊢
        have BN : Hid (Box3 W5 bn n) := ⟨by simp [World.cell?, hb3], by simp [World.cell?, hb3], by simp [World.cell?, hb3], by simp [World.frozen?, hb3], by simp [World.frozen?, hb3], by simp [World.frozen?, hb3]⟩
        have HB5 : Hid (Below w0.heap.size w0 W5) := b_step HBm.out hB5
        clear hW5 hb1 hb3 hB5 L3 x0 x1 x2 y0 y1 y2 z0 z1 z2
        go_wp2_with (fail)
        go_loopg [7] Ls.length (fun gm s wx => ∃ q : Nat, s = .int .i64 (q : Int) /\ q <= Ls.length /\ gm = Ls.length - q /\ Hid (∀ q', q' < q -> vol pa pb pc (pt Ls q') = 0) /\ Hid (Below W5.heap.size W5 wx))
        case atStart => exact ⟨0, rfl, Nat.zero_le _, rfl, fun q' h => absurd h (Nat.not_lt_zero _), Below.refl _ _⟩
        case round =>
         obtain ⟨q, rfl, hq, hgm, HA4, HBq⟩ := hrel
         have HG4 : Hid _ := hgm
         clear hgm
         by_cases hqt : q < Ls.length
         ·obtain ⟨g', off', e', x0, x1, x2⟩ := HC.out q hqt
          simp only [Option.some.injEq, Addr.mk.injEq, and_true] at e'
          obtain ⟨rfl, rfl⟩ := e'
          have x0 := c_after (b_step HB5.out HBq.out) x0
          have x1 := c_after (b_step HB5.out HBq.out) x1
          have x2 := c_after (b_step HB5.out HBq.out) x2
          have y0 := c_after (b_step HB5.out HBq.out) HZ.out.1
          have y1 := c_after (b_step HB5.out HBq.out) HZ.out.2.1
          have y2 := c_after (b_step HB5.out HBq.out) HZ.out.2.2
          have hmin := HIN.out _ (pt_mem hqt)
          have HM2 : Hid (¬ vol pa pb pc (pt Ls q) = 0 -> R = false) := fun h => HM.out ⟨q, hqt, h⟩
          have HS4 : Hid (vol pa pb pc (pt Ls q) = 0 -> ∀ q', q' < q + 1 -> vol pa pb pc (pt Ls q') = 0) := fun h q' h1 => by
           by_cases e : q' = q
           ·subst e; exact h
           ·exact HA4.out q' (by omega)
          rw [HVO.out] at HM2 HS4
          generalize pt Ls q = mo at *
          have L1 : Hid _ := fun w' => minus_any mo pa w' (inB_mono hmin (by decide)) (inB_mono hain (by decide))
          have L2 : Hid _ := fun w' => rdot_any n (mo.sub pa) w' hnin (sub_in hmin hain)
          unfold Pt.v at L1 L2
          obtain ⟨q0, q1, q2, _, _, _⟩ := BN.out.step HBq.out
          have hqz : (q : Int) < (Ls.length : Int) := by omega
          go_upto_region 14 with fail
          refine RV.region_by (fun j v w => match j with | 0 => v = .agg #[.int .i64 (n.x), .int .i64 (n.y), .int .i64 (n.z)] | 1 => v = .slice (some ⟨g, off, none⟩) Ls.length c | 2 => v = .int .i64 ((q : Int)) | 3 => v = .pointer (some ⟨g, off + q * 3, none⟩) | 4 => v = .agg #[.int .i64 (mo.x), .int .i64 (mo.y), .int .i64 (mo.z)] | 5 => v = .slice (some ⟨g, off, none⟩) Ls.length c | 6 => v = .int .i64 ((m : Int)) | 7 => v = .pointer (some ⟨g, off + m * 3, none⟩) | 8 => v = .agg #[.int .i64 (pa.x), .int .i64 (pa.y), .int .i64 (pa.z)] | 9 => v = .agg #[.int .i64 ((mo.sub pa).x), .int .i64 ((mo.sub pa).y), .int .i64 ((mo.sub pa).z)] | 10 => v = .int .i64 (n.dot (mo.sub pa)) | 11 => v = .bool (n.dot (mo.sub pa) != 0) | _ => True) (fun γ L w9 => Below wr.heap.size wr w9) (by kernel_rfl) (by kernel_rfl) (by kernel_rfl) (by kernel_rfl) ?_ ?_ ?_
          ·exact (Below.refl _ wr).drew
          ·generalize hD : dstOf _ = D
           generalize hWA : waitsFor _ = WA
           generalize hZ : Act.mk _ _ = Z
           refine RV.AllDo.name ?_
           intro R hR
           have d0 : D 0 = some 43 := by rw [<- hD]; rfl
           have d1 : D 1 = some 44 := by rw [<- hD]; rfl
           have d2 : D 2 = some 45 := by rw [<- hD]; rfl
           have d3 : D 3 = some 46 := by rw [<- hD]; rfl
           have d4 : D 4 = some 47 := by rw [<- hD]; rfl
           have d5 : D 5 = some 48 := by rw [<- hD]; rfl
           have d6 : D 6 = some 49 := by rw [<- hD]; rfl
           have d7 : D 7 = some 50 := by rw [<- hD]; rfl
           have d8 : D 8 = some 51 := by rw [<- hD]; rfl
           have d9 : D 9 = some 52 := by rw [<- hD]; rfl
           have d10 : D 10 = some 53 := by rw [<- hD]; rfl
           have d11 : D 11 = some 54 := by rw [<- hD]; rfl
           have r0 : ∀ v w, R 0 v w = (v = .agg #[.int .i64 (n.x), .int .i64 (n.y), .int .i64 (n.z)]) := fun v w => by rw [hR]; rfl
           have r1 : ∀ v w, R 1 v w = (v = .slice (some ⟨g, off, none⟩) Ls.length c) := fun v w => by rw [hR]; rfl
           have r2 : ∀ v w, R 2 v w = (v = .int .i64 ((q : Int))) := fun v w => by rw [hR]; rfl
           have r3 : ∀ v w, R 3 v w = (v = .pointer (some ⟨g, off + q * 3, none⟩)) := fun v w => by rw [hR]; rfl
           have r4 : ∀ v w, R 4 v w = (v = .agg #[.int .i64 (mo.x), .int .i64 (mo.y), .int .i64 (mo.z)]) := fun v w => by rw [hR]; rfl
           have r5 : ∀ v w, R 5 v w = (v = .slice (some ⟨g, off, none⟩) Ls.length c) := fun v w => by rw [hR]; rfl
           have r6 : ∀ v w, R 6 v w = (v = .int .i64 ((m : Int))) := fun v w => by rw [hR]; rfl
           have r7 : ∀ v w, R 7 v w = (v = .pointer (some ⟨g, off + m * 3, none⟩)) := fun v w => by rw [hR]; rfl
           have r8 : ∀ v w, R 8 v w = (v = .agg #[.int .i64 (pa.x), .int .i64 (pa.y), .int .i64 (pa.z)]) := fun v w => by rw [hR]; rfl
           have r9 : ∀ v w, R 9 v w = (v = .agg #[.int .i64 ((mo.sub pa).x), .int .i64 ((mo.sub pa).y), .int .i64 ((mo.sub pa).z)]) := fun v w => by rw [hR]; rfl
           have r10 : ∀ v w, R 10 v w = (v = .int .i64 (n.dot (mo.sub pa))) := fun v w => by rw [hR]; rfl
           have r11 : ∀ v w, R 11 v w = (v = .bool (n.dot (mo.sub pa) != 0)) := fun v w => by rw [hR]; rfl
           have F0_ : ∀ j, D j ≠ some 0 := by rw [<- hD]; exact RV.dst_free (by kernel_rfl)
           have Z0_ : Z.tmps[0]? = some (.slice (some ⟨g, off, none⟩) Ls.length c) := by rw [<- hZ]; rfl
           have F5_ : ∀ j, D j ≠ some 5 := by rw [<- hD]; exact RV.dst_free (by kernel_rfl)
           have Z5_ : Z.tmps[5]? = some (.int .i64 ((m : Int))) := by rw [<- hZ]; rfl
           have F6_ : ∀ j, D j ≠ some 6 := by rw [<- hD]; exact RV.dst_free (by kernel_rfl)
           have Z6_ : Z.tmps[6]? = some (.pointer (some ⟨bn, 0, none⟩)) := by rw [<- hZ]; rfl
           have F7_ : ∀ j, D j ≠ some 7 := by rw [<- hD]; exact RV.dst_free (by kernel_rfl)
           have Z7_ : Z.tmps[7]? = some (.int .i64 ((q : Int))) := by rw [<- hZ]; rfl
           have K : ∀ j v w w', R j v w -> R j v w' := by rw [hR]; intro j v w w' h; exact h
           clear hD hWA hZ hR
           refine RV.cc 0 (RV.dp (fun γ v L w hl h => h) (fun γ L a w hH hl hA => by have e0 := ((hH.rest 6 F6_).trans Z6_); have hB9 := hH.glob; have z0 := c_after hB9 q0; have z1 := c_after hB9 q1; have z2 := c_after hB9 q2; exact ⟨.agg #[.int .i64 (n.x), .int .i64 (n.y), .int .i64 (n.z)], by simp [execOp, go_sem, e0, z0, z1, z2], (r0 _ _).mpr rfl⟩)) ?_
           refine RV.cc 1 (RV.dp (fun γ v L w hl h => h) (fun γ L a w hH hl hA => by have e0 := ((hH.rest 0 F0_).trans Z0_); exact ⟨.slice (some ⟨g, off, none⟩) Ls.length c, by simp [execOp, go_sem, e0], (r1 _ _).mpr rfl⟩)) ?_
           refine RV.cc 2 (RV.dp (fun γ v L w hl h => h) (fun γ L a w hH hl hA => by have e0 := ((hH.rest 7 F7_).trans Z7_); exact ⟨.int .i64 ((q : Int)), by simp [execOp, go_sem, e0], (r2 _ _).mpr rfl⟩)) ?_
           refine RV.cc 3 (RV.dp (fun γ v L w hl h => h) (fun γ L a w hH hl hA => by have e0 := hH.got d1 r1 (hA ⟨1, .data⟩ (by simp) rfl); have e1 := hH.got d2 r2 (hA ⟨2, .data⟩ (by simp) rfl); exact ⟨.pointer (some ⟨g, off + q * 3, none⟩), by simp [execOp, go_sem, e0, e1, hqz], (r3 _ _).mpr rfl⟩)) ?_
           refine RV.cc 4 (RV.dp (fun γ v L w hl h => h) (fun γ L a w hH hl hA => by have e0 := hH.got d3 r3 (hA ⟨3, .data⟩ (by simp) rfl); have hB9 := hH.glob; have v0 := c_after hB9 x0; have v1 := c_after hB9 x1; have v2 := c_after hB9 x2; exact ⟨.agg #[.int .i64 (mo.x), .int .i64 (mo.y), .int .i64 (mo.z)], by simp [execOp, go_sem, e0, v0, v1, v2], (r4 _ _).mpr rfl⟩)) ?_
           refine RV.cc 5 (RV.dp (fun γ v L w hl h => h) (fun γ L a w hH hl hA => by have e0 := ((hH.rest 0 F0_).trans Z0_); exact ⟨.slice (some ⟨g, off, none⟩) Ls.length c, by simp [execOp, go_sem, e0], (r5 _ _).mpr rfl⟩)) ?_
           refine RV.cc 6 (RV.dp (fun γ v L w hl h => h) (fun γ L a w hH hl hA => by have e0 := ((hH.rest 5 F5_).trans Z5_); exact ⟨.int .i64 ((m : Int)), by simp [execOp, go_sem, e0], (r6 _ _).mpr rfl⟩)) ?_
           refine RV.cc 7 (RV.dp (fun γ v L w hl h => h) (fun γ L a w hH hl hA => by have e0 := hH.got d5 r5 (hA ⟨5, .data⟩ (by simp) rfl); have e1 := hH.got d6 r6 (hA ⟨6, .data⟩ (by simp) rfl); exact ⟨.pointer (some ⟨g, off + m * 3, none⟩), by simp [execOp, go_sem, e0, e1, hmz], (r7 _ _).mpr rfl⟩)) ?_
           refine RV.cc 8 (RV.dp (fun γ v L w hl h => h) (fun γ L a w hH hl hA => by have e0 := hH.got d7 r7 (hA ⟨7, .data⟩ (by simp) rfl); have hB9 := hH.glob; have v0 := c_after hB9 y0; have v1 := c_after hB9 y1; have v2 := c_after hB9 y2; exact ⟨.agg #[.int .i64 (pa.x), .int .i64 (pa.y), .int .i64 (pa.z)], by simp [execOp, go_sem, e0, v0, v1, v2], (r8 _ _).mpr rfl⟩)) ?_
           refine RV.cc 9 (RV.dc (fun γ L a w hH hl hA => by have e0 := hH.got d4 r4 (hA ⟨4, .data⟩ (by simp) rfl); have e1 := hH.got d8 r8 (hA ⟨8, .data⟩ (by simp) rfl); have hB9 := hH.glob; exact ⟨10, #[.agg #[.int .i64 (mo.x), .int .i64 (mo.y), .int .i64 (mo.z)], .agg #[.int .i64 (pa.x), .int .i64 (pa.y), .int .i64 (pa.z)]], by simp [go_sem, e0, e1], Calls.mono (L1.out w) (by rintro e w2 ⟨rfl, hb⟩; exact ⟨_, rfl, (r9 _ _).mpr rfl, fun j v _ h => K j v _ _ h, hB9.trans (hb.mono hB9.size)⟩)⟩)) ?_
           refine RV.cc 10 (RV.dc (fun γ L a w hH hl hA => by have e0 := hH.got d0 r0 (hA ⟨0, .data⟩ (by simp) rfl); have e1 := hH.got d9 r9 (hA ⟨9, .data⟩ (by simp) rfl); have hB9 := hH.glob; exact ⟨16, #[.agg #[.int .i64 (n.x), .int .i64 (n.y), .int .i64 (n.z)], .agg #[.int .i64 ((mo.sub pa).x), .int .i64 ((mo.sub pa).y), .int .i64 ((mo.sub pa).z)]], by simp [go_sem, e0, e1], Calls.mono (L2.out w) (by rintro e w2 ⟨rfl, hb⟩; exact ⟨_, rfl, (r10 _ _).mpr rfl, fun j v _ h => K j v _ _ h, hB9.trans (hb.mono hB9.size)⟩)⟩)) ?_
           refine RV.cc 11 (RV.dp (fun γ v L w hl h => h) (fun γ L a w hH hl hA => by have e0 := hH.got d10 r10 (hA ⟨10, .data⟩ (by simp) rfl); exact ⟨.bool (n.dot (mo.sub pa) != 0), by simp [execOp, go_sem, e0], (r11 _ _).mpr rfl⟩)) ?_
           exact RV.AllDo.nil
          ·intro γ a5 w5 L9 hL hLo hH
           have ha := RV.held_act hH hL (by kernel_rfl) (by kernel_rfl)
           have hb8 := hH.glob
           have y0 : γ 0 = .agg #[.int .i64 (n.x), .int .i64 (n.y), .int .i64 (n.z)] := hH.holds 0 (hL 0 (by decide))
           have y1 : γ 1 = .slice (some ⟨g, off, none⟩) Ls.length c := hH.holds 1 (hL 1 (by decide))
           have y2 : γ 2 = .int .i64 ((q : Int)) := hH.holds 2 (hL 2 (by decide))
           have y3 : γ 3 = .pointer (some ⟨g, off + q * 3, none⟩) := hH.holds 3 (hL 3 (by decide))
           have y4 : γ 4 = .agg #[.int .i64 (mo.x), .int .i64 (mo.y), .int .i64 (mo.z)] := hH.holds 4 (hL 4 (by decide))
           have y5 : γ 5 = .slice (some ⟨g, off, none⟩) Ls.length c := hH.holds 5 (hL 5 (by decide))
           have y6 : γ 6 = .int .i64 ((m : Int)) := hH.holds 6 (hL 6 (by decide))
           have y7 : γ 7 = .pointer (some ⟨g, off + m * 3, none⟩) := hH.holds 7 (hL 7 (by decide))
           have y8 : γ 8 = .agg #[.int .i64 (pa.x), .int .i64 (pa.y), .int .i64 (pa.z)] := hH.holds 8 (hL 8 (by decide))
           have y9 : γ 9 = .agg #[.int .i64 ((mo.sub pa).x), .int .i64 ((mo.sub pa).y), .int .i64 ((mo.sub pa).z)] := hH.holds 9 (hL 9 (by decide))
           have y10 : γ 10 = .int .i64 (n.dot (mo.sub pa)) := hH.holds 10 (hL 10 (by decide))
           have y11 : γ 11 = .bool (n.dot (mo.sub pa) != 0) := hH.holds 11 (hL 11 (by decide))
           rw [ha]
           clear ha hH hL hLo
           simp only [RV.putAll, Act.put, List.setIfInBounds_toArray, List.set_cons_zero, List.set_cons_succ, Nat.zero_add, Nat.reduceAdd, y0, y1, y2, y3, y4, y5, y6, y7, y8, y9, y10, y11]
           clear y0 y1 y2 y3 y4 y5 y6 y7 y8 y9 y10 y11
           have HB7 : Hid _ := b_step HBq.out hb8
           clear hb8 L1 L2 q0 q1 q2 x0 x1 x2 y0 y1 y2
           generalize n.dot (mo.sub pa) = dd at *
           by_cases hd : dd = 0
           ·have HS5 : Hid _ := HS4.out hd
            subst hd
            clear HM2
            go_wp2_with (fail)
            go_roundg (Ls.length - (q + 1))
            case measure => have := HG4.out; omega
            case rel => exact ⟨q + 1, by go_num, by omega, rfl, HS5, HB7⟩
           ·have e : R = false := HM2.out hd
            subst e
            have hd2 : (dd != 0) = true := bne_iff_ne.2 hd
            go_wp2_with (fail)
            go_ret
            exact ⟨rfl, b_step HB5.out HB7.out⟩
         ·have HS3 : Hid _ := HS3.out (fun q' h => HA4.out q' (by omega))
          go_wp2_with (fail)
          go_roundg (k - (m + 1))
          case measure => have := HG3.out; omega
          case rel => exact ⟨m + 1, by go_num, by omega, rfl, HS3, b_step HB5.out HBq.out⟩
      ·have HS2 : Hid (∀ k' m q, k' < k + 1 -> m < k' -> q < Ls.length -> vol (pt Ls m) (pt Ls k') (pt Ls i) (pt Ls q) = 0) := fun k' m' q h1 h2 h3 => by
        by_cases e : k' = k
        ·subst e; exact HA3.out m' q (by omega) h3
        ·exact HA2.out k' m' q (by omega) h2 h3
       go_wp2_with (fail)
       go_roundg (i - (k + 1))
       case measure => have := HG2.out; omega
       case rel => exact ⟨k + 1, by go_num, by omega, rfl, HS2, HBm⟩
    ·have HS1 : Hid (∀ i' k m q, i' < i + 1 -> m < k -> k < i' -> q < Ls.length -> vol (pt Ls m) (pt Ls k) (pt Ls i') (pt Ls q) = 0) := fun i' k' m' q h1 h2 h3 h4 => by
      by_cases e : i' = i
      ·subst e; exact HA2.out k' m' q (by omega) h2 h4
      ·exact HA.out i' k' m' q (by omega) h2 h3 h4
     go_wp2_with (fail)
     go_roundg (Ls.length - (i + 1))
     case measure => have := HG1.out; omega
     case rel => exact ⟨i + 1, by go_num, by omega, rfl, HS1, HBk⟩
  ·have e : R = true := HF.out.1 (fun i' k' m' q h1 h2 h3 h4 => HA.out i' k' m' q (by omega) h1 h2 h4)
   subst e
   go_wp2_with (fail)
   go_ret
   exact ⟨rfl, HBi.out⟩
end
section
open Go.RowKit Go.Shelf
theorem pt_getElem {L : List Pt} {i : Nat} (h : i < L.length) : pt L i = L[i] := by unfold pt; simp [h]
theorem may_iff {L : List Pt} (h4 : 4 <= L.length) (h12 : L.length <= 12) : mayP L = true ↔ ∀ j, j < L.length -> (pt L j).inB 65536 = true /\ ∀ j', j' < j -> pt L j' ≠ pt L j := by
 unfold mayP
 rw [decide_eq_true (p := 4 <= L.length /\ L.length <= 12) ⟨h4, h12⟩, Bool.true_and, Bool.and_eq_true, decide_eq_true_eq, List.all_eq_true]
 constructor
 ·rintro ⟨h1, h2⟩ j hj
  refine ⟨h1 _ (pt_mem hj), fun j' hj' e => ?_⟩
  rw [pt_getElem hj, pt_getElem (by omega : j' < L.length)] at e
  exact (List.pairwise_iff_getElem.1 h2 j' j (by omega) hj hj') e
 ·intro h
  refine ⟨fun p hp => ?_, List.pairwise_iff_getElem.2 fun i j hi hj hij e => ?_⟩
  ·obtain ⟨i, hi, rfl⟩ := List.getElem_of_mem hp
   rw [<- pt_getElem hi]; exact (h i hi).1
  ·exact (h j hj).2 i hij (by rw [pt_getElem hi, pt_getElem hj]; exact e)
set_option maxHeartbeats 2000000 in
set_option maxRecDepth 100000 in
theorem rform_hull (r : Int) (hf : Pt) (pv : Value) (Ls : List Pt) (w : World) (hv : Lies w pv Ls) :
  Calls Tryz.prog 96 #[.agg #[.int .i64 4, .int .i64 r, .int .i64 hf.x, .int .i64 hf.y, .int .i64 hf.z, pv]] w fun e W => e = .returned (.bool (inR r 0 16384 && mayP Ls)) /\ Below w.heap.size w W := by
 obtain ⟨hx, hy, hz⟩ := hf
 obtain ⟨o, c, rfl, hlc, hcm, hcell⟩ := hv.form
 have HC : Hid _ := hcell
 clear hcell hv
 dsimp only
 have hB : Hid (Below w.heap.size w (w.alloc (.cells #[.int .i64 4, .int .i64 r, .int .i64 hx, .int .i64 hy, .int .i64 hz, .slice o Ls.length c] 67))) := n_after w _
 have B1 : Hid (Cells (w.alloc (.cells #[.int .i64 4, .int .i64 r, .int .i64 hx, .int .i64 hy, .int .i64 hz, .slice o Ls.length c] 67)) w.heap.size [.int .i64 4, .int .i64 r, .int .i64 hx, .int .i64 hy, .int .i64 hz, .slice o Ls.length c]) := Cells.new w [.int .i64 4, .int .i64 r, .int .i64 hx, .int .i64 hy, .int .i64 hz, .slice o Ls.length c] _
 cases hb : inR r 0 16384 with
 | false =>
  go_enter Tryz.func96, Tryz.ntmps96
  go_wp2_with (fail)
  refine Calls.mono (rin_is r 0 16384 _ false hb) ?_
  rintro e w' ⟨rfl, rfl⟩
  go_wp2_with (fail)
  go_ret
  exact ⟨rfl, hB.out⟩
 | true =>
  cases hl : inR (Ls.length : Int) 4 12 with
  | false =>
   have e : mayP Ls = false := by
    unfold mayP
    rw [decide_eq_false (p := 4 <= Ls.length /\ Ls.length <= 12) (by have := of_decide_eq_false hl; omega)]; rfl
   rw [e]
   clear e
   go_enter Tryz.func96, Tryz.ntmps96
   go_wp2_with (fail)
   refine Calls.mono (rin_is r 0 16384 _ true hb) ?_
   rintro e w' ⟨rfl, rfl⟩
   go_wp2_with (fail)
   refine Calls.mono (rin_is _ 4 12 _ false hl) ?_
   rintro e w' ⟨rfl, rfl⟩
   go_wp2_with (fail)
   go_ret
   exact ⟨rfl, hB.out⟩
  | true =>
   have h4 : 4 <= Ls.length := by have := of_decide_eq_true hl; omega
   have h12 : Ls.length <= 12 := by have := of_decide_eq_true hl; omega
   have HF : Hid _ := may_iff h4 h12
   generalize mayP Ls = R at *
   obtain ⟨g, off, rfl, _, _, _⟩ := HC.out 0 (by omega)
   go_enter Tryz.func96, Tryz.ntmps96
   go_wp2_with (fail)
   refine Calls.mono (rin_is r 0 16384 _ true hb) ?_
   rintro e w' ⟨rfl, rfl⟩
   go_wp2_with (fail)
   refine Calls.mono (rin_is _ 4 12 _ true hl) ?_
   rintro e V ⟨rfl, rfl⟩
   clear hb hl
   go_wp2_with (fail)
   obtain ⟨V, hV⟩ : ∃ V : World, V = w.alloc (.cells #[.int .i64 4, .int .i64 r, .int .i64 hx, .int .i64 hy, .int .i64 hz, .slice (some ⟨g, off, none⟩) Ls.length c] 67) := ⟨_, rfl⟩
   rw [<- hV] at B1 hB ⊢
   clear hV
   go_loopg [4] Ls.length (fun gm s wr => ∃ i : Nat, s = .int .i64 (i : Int) /\ i <= Ls.length /\ gm = Ls.length - i /\ Hid (∀ j, j < i -> (pt Ls j).inB 65536 = true /\ ∀ j', j' < j -> pt Ls j' ≠ pt Ls j) /\ Hid (Below V.heap.size V wr))
   case atStart => exact ⟨0, rfl, Nat.zero_le _, rfl, fun j h => absurd h (Nat.not_lt_zero _), Below.refl _ _⟩
   case round =>
    obtain ⟨i, rfl, hi, hgm, HA, HBi⟩ := hrel
    have HG1 : Hid _ := hgm
    clear hgm
    have s5 := (Cells.step B1.out HBi.out 5 _ rfl).1
    by_cases hit : i < Ls.length
    ·obtain ⟨g', off', e', x0, x1, x2⟩ := HC.out i hit
     simp only [Option.some.injEq, Addr.mk.injEq, and_true] at e'
     obtain ⟨rfl, rfl⟩ := e'
     have HX : Hid _ := And.intro (c_after hB.out x0) (And.intro (c_after hB.out x1) (c_after hB.out x2))
     clear x0 x1 x2
     have x0 := c_after HBi.out HX.out.1
     have x1 := c_after HBi.out HX.out.2.1
     have x2 := c_after HBi.out HX.out.2.2
     have HW : Hid _ := fun w' => rwithin_any (pt Ls i) (-65536) 65536 w'
     rw [inP_sym] at HW
     have HM : Hid ((pt Ls i).inB 65536 = false -> R = false) := fun h => by
      cases R with
      | false => rfl
      | true => have := (HF.out.1 rfl i hit).1; rw [h] at this; cases this
     have HM2 : Hid (∀ k, k < i -> pt Ls k = pt Ls i -> R = false) := fun k hk h => by
      cases R with
      | false => rfl
      | true => exact absurd h ((HF.out.1 rfl i hit).2 k hk)
     have HS1 : Hid ((pt Ls i).inB 65536 = true -> (∀ j', j' < i -> pt Ls j' ≠ pt Ls i) -> ∀ j, j < i + 1 -> (pt Ls j).inB 65536 = true /\ ∀ j', j' < j -> pt Ls j' ≠ pt Ls j) := fun h1 h2 j hj => by
      by_cases e : j = i
      ·subst e; exact ⟨h1, h2⟩
      ·exact HA.out j (by omega)
     generalize pt Ls i = pc at *
     unfold Pt.v at HW
     generalize pc.inB 65536 = t at *
     go_wp2_with (fail)
     refine Calls.mono (HW.out _) ?_
     rintro e V1 ⟨rfl, hb1⟩
     have HB1 : Hid _ := b_step HBi.out hb1
     clear hb1 x0 x1 x2 s5 HW
     cases t with
     | false =>
      have e : R = false := HM.out rfl
      subst e
      go_wp2_with (fail)
      go_ret
      exact ⟨rfl, b_step hB.out HB1.out⟩
     | true =>
      have HS2 : Hid _ := HS1.out rfl
      clear HS1 HM
      go_wp2_with (fail)
      go_loopg [6] i (fun gm s wr => ∃ k : Nat, s = .int .i64 (k : Int) /\ k <= i /\ gm = i - k /\ Hid (∀ j', j' < k -> pt Ls j' ≠ pc) /\ Hid (Below V.heap.size V wr))
      case atStart => exact ⟨0, rfl, Nat.zero_le _, rfl, fun j' h => absurd h (Nat.not_lt_zero _), HB1⟩
      case round =>
       obtain ⟨k, rfl, hk, hgm, HA2, HBk⟩ := hrel
       have HG2 : Hid _ := hgm
       clear hgm
       by_cases hkt : k < i
       ·have hkl : k < Ls.length := by omega
        obtain ⟨g', off', e', y0, y1, y2⟩ := HC.out k hkl
        simp only [Option.some.injEq, Addr.mk.injEq, and_true] at e'
        obtain ⟨rfl, rfl⟩ := e'
        have y0 := c_after (b_step hB.out HBk.out) y0
        have y1 := c_after (b_step hB.out HBk.out) y1
        have y2 := c_after (b_step hB.out HBk.out) y2
        have x0 := c_after HBk.out HX.out.1
        have x1 := c_after HBk.out HX.out.2.1
        have x2 := c_after HBk.out HX.out.2.2
        have s5 := (Cells.step B1.out HBk.out 5 _ rfl).1
        have HEQ : Hid (pt Ls k = pc -> R = false) := HM2.out k hkt
        have HNE : Hid (¬ pt Ls k = pc -> ∀ j', j' < k + 1 -> pt Ls j' ≠ pc) := fun h j' hj => by
         by_cases e : j' = k
         ·subst e; exact h
         ·exact HA2.out j' (by omega)
        rw [pt_eq] at HEQ HNE
        generalize (pt Ls k).x = lx at *
        generalize (pt Ls k).y = ly at *
        generalize (pt Ls k).z = lz at *
        by_cases ex : lx = pc.x
        ·by_cases ey : ly = pc.y
         ·by_cases ez : lz = pc.z
          ·have e : R = false := HEQ.out ⟨ex, ey, ez⟩
           subst e ex ey ez
           go_wp2_with (fail)
           go_region
           go_wp2_with (fail)
           go_ret
           exact ⟨rfl, b_step hB.out HBk.out.drew⟩
          ·have HN : Hid _ := HNE.out (fun h => ez h.2.2)
           have e1 : (lz == pc.z) = false := beq_eq_false_iff_ne.2 ez
           clear HEQ HNE
           go_wp2_with (fail)
           go_region
           go_wp2_with (fail)
           go_roundg (i - (k + 1))
           case measure => have := HG2.out; omega
           case rel => exact ⟨k + 1, by go_num, by omega, rfl, HN, HBk.out.drew⟩
         ·have HN : Hid _ := HNE.out (fun h => ey h.2.1)
          have e1 : (ly == pc.y) = false := beq_eq_false_iff_ne.2 ey
          clear HEQ HNE
          go_wp2_with (fail)
          go_region
          go_wp2_with (fail)
          go_roundg (i - (k + 1))
          case measure => have := HG2.out; omega
          case rel => exact ⟨k + 1, by go_num, by omega, rfl, HN, HBk.out.drew⟩
        ·have HN : Hid _ := HNE.out (fun h => ex h.1)
         have e1 : (lx == pc.x) = false := beq_eq_false_iff_ne.2 ex
         clear HEQ HNE
         go_wp2_with (fail)
         go_region
         go_wp2_with (fail)
         go_roundg (i - (k + 1))
         case measure => have := HG2.out; omega
         case rel => exact ⟨k + 1, by go_num, by omega, rfl, HN, HBk.out.drew⟩
       ·have HS3 : Hid _ := HS2.out (fun j' h => HA2.out j' (by omega))
        go_wp2_with (fail)
        go_roundg (Ls.length - (i + 1))
        case measure => have := HG1.out; omega
        case rel => exact ⟨i + 1, by go_num, by omega, rfl, HS3, HBk⟩
    ·have e : R = true := HF.out.2 (fun j hj => HA.out j (by omega))
     subst e
     go_wp2_with (fail)
     go_ret
     exact ⟨rfl, b_step hB.out HBi.out⟩
end
section
open Go.RowKit Go.Shelf
set_option maxHeartbeats 2000000 in
set_option maxRecDepth 100000 in
theorem rform_any (s : Sh) (pv : Value) (w : World) (hv : Lies w pv s.pts) :
  Calls Tryz.prog 96 #[s.v pv] w fun e W => e = .returned (.bool (formP s)) /\ Below w.heap.size w W := by
 obtain ⟨k, r, ⟨hx, hy, hz⟩, L⟩ := s
 have HF : Hid (formP ⟨k, r, ⟨hx, hy, hz⟩, L⟩ = if k = 1 then inR r 1 16384 else if k = 2 then inR r 1 16384 && halfOk hx else if k = 3 then inR r 0 16384 && (halfOk hx && (halfOk hy && halfOk hz)) else if k = 4 then inR r 0 16384 && mayP L else false) := rfl
 generalize formP ⟨k, r, ⟨hx, hy, hz⟩, L⟩ = F at *
 have HV : Hid _ := hv
 have hB : Hid (Below w.heap.size w (w.alloc (.cells #[.int .i64 k, .int .i64 r, .int .i64 hx, .int .i64 hy, .int .i64 hz, pv] 67))) := n_after w _
 have B1 : Hid (Cells (w.alloc (.cells #[.int .i64 k, .int .i64 r, .int .i64 hx, .int .i64 hy, .int .i64 hz, pv] 67)) w.heap.size [.int .i64 k, .int .i64 r, .int .i64 hx, .int .i64 hy, .int .i64 hz, pv]) := Cells.new w [.int .i64 k, .int .i64 r, .int .i64 hx, .int .i64 hy, .int .i64 hz, pv] _
 obtain ⟨o, c, rfl, hlc, hcm, _⟩ := hv.form
 dsimp only at hlc hcm hB HV ⊢
 clear hv
 unfold Sh.v
 dsimp only
 by_cases k1 : k = 1
 ·subst k1
  have e : F = inR r 1 16384 := HF.out
  subst e
  generalize hb : inR r 1 16384 = t
  go_enter Tryz.func96, Tryz.ntmps96
  go_wp2_with (fail)
  refine Calls.mono (rin_is r 1 16384 _ t hb) ?_
  rintro e w' ⟨rfl, rfl⟩
  go_wp2_with (fail)
  go_ret
  exact ⟨rfl, hB.out⟩
 by_cases k2 : k = 2
 ·subst k2
  have e : F = (inR r 1 16384 && halfOk hx) := HF.out
  cases hb : inR r 1 16384 with
  | false =>
   rw [hb] at e
   subst e
   go_enter Tryz.func96, Tryz.ntmps96
   go_wp2_with (fail)
   refine Calls.mono (rin_is r 1 16384 _ false hb) ?_
   rintro e w' ⟨rfl, rfl⟩
   go_wp2_with (fail)
   go_ret
   exact ⟨rfl, hB.out⟩
  | true =>
   rw [hb] at e
   have e2 : F = inR hx 1 65536 := e
   clear e
   subst e2
   generalize hh : inR hx 1 65536 = t
   go_enter Tryz.func96, Tryz.ntmps96
   go_wp2_with (fail)
   refine Calls.mono (rin_is r 1 16384 _ true hb) ?_
   rintro e w' ⟨rfl, rfl⟩
   go_wp2_with (fail)
   refine Calls.mono (rin_is hx 1 65536 _ t hh) ?_
   rintro e w' ⟨rfl, rfl⟩
   go_wp2_with (fail)
   go_ret
   exact ⟨rfl, hB.out⟩
 by_cases k3 : k = 3
 ·subst k3
  have e : F = (inR r 0 16384 && inP ⟨hx, hy, hz⟩ 1 65536) := HF.out
  have HW : Hid _ := fun w' => rwithin_any ⟨hx, hy, hz⟩ 1 65536 w'
  generalize inP ⟨hx, hy, hz⟩ 1 65536 = u at *
  unfold Pt.v at HW
  dsimp only at HW
  subst e
  generalize hb : inR r 0 16384 = t
  have c2 := (B1.out 2 _ rfl).1
  have c3 := (B1.out 3 _ rfl).1
  have c4 := (B1.out 4 _ rfl).1
  go_enter Tryz.func96, Tryz.ntmps96
  go_wp2_with (fail)
  refine Calls.mono (HW.out _) ?_
  rintro e V ⟨rfl, hb2⟩
  have c1 := (Cells.step B1.out hb2 1 _ rfl).1
  have hB2 : Hid _ := b_step hB.out hb2
  clear hb2 c2 c3 c4
  cases t with
  | false =>
   go_wp2_with (fail)
   refine Calls.mono (rin_is r 0 16384 _ false hb) ?_
   rintro e w' ⟨rfl, rfl⟩
   go_wp2_with (fail)
   go_ret
   exact ⟨rfl, hB2.out⟩
  | true =>
   go_wp2_with (fail)
   refine Calls.mono (rin_is r 0 16384 _ true hb) ?_
   rintro e w' ⟨rfl, rfl⟩
   go_wp2_with (fail)
   go_ret
   exact ⟨rfl, hB2.out⟩
 by_cases k4 : k = 4
 ·subst k4
  have e : F = (inR r 0 16384 && mayP L) := HF.out
  rw [e]
  exact rform_hull r ⟨hx, hy, hz⟩ _ L w HV.out
 ·have e : F = false := by rw [HF.out, if_neg k1, if_neg k2, if_neg k3, if_neg k4]
  subst e
  go_enter Tryz.func96, Tryz.ntmps96
  go_wp2
  go_ret
  exact ⟨rfl, hB.out⟩
set_option maxHeartbeats 1000000 in
set_option maxRecDepth 100000 in
theorem rcheck_any (s : Sh) (pv : Value) (w : World) (hv : Lies w pv s.pts) :
  Calls Tryz.prog 55 #[s.v pv] w fun e W => e = .returned (.int .i64 (checkP s)) /\ Below w.heap.size w W := by
 have hB : Hid (Below w.heap.size w (w.alloc (.cells #[.int .i64 s.kind, .int .i64 s.radius, .int .i64 s.half.x, .int .i64 s.half.y, .int .i64 s.half.z, pv] 67))) := n_after w _
 have HF : Hid _ := rform_any s pv (w.alloc (.cells #[.int .i64 s.kind, .int .i64 s.radius, .int .i64 s.half.x, .int .i64 s.half.y, .int .i64 s.half.z, pv] 67)) (hv.below hB.out)
 have HC : Hid (checkP s = if formP s then (if s.kind = 4 /\ flatP s.pts = true then 51 else 0) else 50) := rfl
 have HM : Hid (formP s = true -> s.kind = 4 -> mayP s.pts = true) := fun a b => form_hull a b
 generalize checkP s = C at *
 have HV : Hid _ := hv
 obtain ⟨o, c, rfl, hlc, hcm, _⟩ := hv.form
 clear hv
 generalize formP s = F at *
 obtain ⟨k, r, ⟨hx, hy, hz⟩, L⟩ := s
 unfold Sh.v at *
 dsimp only at *
 cases F with
 | false =>
  have e : C = 50 := HC.out
  subst e
  go_enter Tryz.func55, Tryz.ntmps55
  go_wp2_with (go_at_call 96; refine Calls.mono HF.out ?_; rintro e V ⟨rfl, hb⟩)
  go_ret
  exact ⟨rfl, b_step hB.out hb⟩
 | true =>
  have c0 : (w.alloc (.cells #[.int .i64 k, .int .i64 r, .int .i64 hx, .int .i64 hy, .int .i64 hz, .slice o L.length c] 67)).cell? ⟨w.heap.size, 0, none⟩ = some (.int .i64 k) := by simp
  have c5 : (w.alloc (.cells #[.int .i64 k, .int .i64 r, .int .i64 hx, .int .i64 hy, .int .i64 hz, .slice o L.length c] 67)).cell? ⟨w.heap.size, 5, none⟩ = some (.slice o L.length c) := by simp
  by_cases k4 : k = 4
  ·subst k4
   obtain ⟨m1, m2, m3, m4⟩ := may_parts (HM.out rfl rfl)
   have m3 : Hid _ := m3
   have m5 : Hid (pt L 0 ≠ pt L 1) := fun e => by
    rw [pt_getElem (by omega : 0 < L.length), pt_getElem (by omega : 1 < L.length)] at e
    exact (List.pairwise_iff_getElem.1 m4 0 1 (by omega) (by omega) (by omega)) e
   have HC : Hid (C = if flatP L = true then 51 else 0) := by show _ = _; rw [HC.out]; simp
   go_enter Tryz.func55, Tryz.ntmps55
   go_wp2_with (fail)
   refine Calls.mono HF.out ?_
   clear HF
   rintro e V ⟨rfl, hb⟩
   have d0 := c_after hb c0
   have d5 := c_after hb c5
   have hB2 : Hid _ := b_step hB.out hb
   clear hb c0 c5
   go_wp2_with (fail)
   refine Calls.mono (rflat_any _ L V (HV.out.below hB2.out) m1 m2 m3.out m5.out) ?_
   rintro e V2 ⟨rfl, hb⟩
   clear d0 d5
   generalize flatP L = fl at *
   cases fl with
   | true =>
    have e : C = 51 := HC.out
    subst e
    go_wp2_with (fail)
    go_ret
    exact ⟨rfl, b_step hB2.out hb⟩
   | false =>
    have e : C = 0 := HC.out
    subst e
    go_wp2_with (fail)
    go_ret
    exact ⟨rfl, b_step hB2.out hb⟩
  ·have e : C = 0 := by rw [HC.out, if_pos rfl, if_neg (fun h => k4 h.1)]
   subst e
   go_enter Tryz.func55, Tryz.ntmps55
   go_wp2_with (fail)
   refine Calls.mono HF.out ?_
   clear HF
   rintro e V ⟨rfl, hb⟩
   have d0 := c_after hb c0
   have hB2 : Hid _ := b_step hB.out hb
   clear hb c0 c5
   go_wp2_with (fail)
   go_ret
   exact ⟨rfl, hB2.out⟩
end
section
open Go.RowKit Fx
theorem great_step (zs : List Int) (k : Nat) (h : k < zs.length) (hn : (zs.take k).any great = false) : (zs.take (k + 1)).any great = great (zs.getD k 0) := by
 rw [List.take_succ_eq_append_getElem h, List.any_append, hn]
 simp [List.getD_eq_getElem?_getD, List.getElem?_eq_getElem h]
def mark (p : Addr) (o : Option Int) (w : World) : World := if o.isNone then w.setCell p (.bool true) else w
theorem set_after {w w1 : World} {p : Addr} {v : Value} (hb : Below w.heap.size w w1) : Below w.heap.size (w.setCell p v) (w1.setCell p v) := by
 refine ⟨hb.os, hb.tape, hb.output, by simpa [World.setCell] using hb.size, fun k hk => ?_⟩
 simp only [World.setCell, Array.getElem?_modify]
 rw [hb.block k hk]
theorem cell_after {w w1 : World} {p : Addr} {v : Value} (hb : Below w.heap.size w w1) (hc : w.cell? p = some v) : w1.cell? p = some v := (hb.cell (World.block_lt_of_cell? _ _ hc)).trans hc
theorem frozen_after {w w1 : World} {p : Addr} {v : Value} (hb : Below w.heap.size w w1) (hc : w.cell? p = some v) (hf : w.frozen? p = false) : w1.frozen? p = false := (hb.frozen (World.block_lt_of_cell? _ _ hc)).trans hf
theorem new_after (w : World) (o : Obj) : Below w.heap.size w (w.alloc o) := (Below.refl _ _).alloc (Nat.le_refl _) _
theorem mark_after {w w1 w2 : World} {p : Addr} {o : Option Int} (h1 : Below w.heap.size w w1) (h2 : Below w1.heap.size (mark p o w1) w2) : Below w.heap.size (mark p o w) w2 := by
 have hs := h1.size
 cases o with
 | none => exact (set_after h1).trans (h2.mono hs)
 | some n => exact h1.trans (h2.mono hs)
end
section
open Go.RowKit Fx
theorem below_step {w w1 w2 : World} (h1 : Below w.heap.size w w1) (h2 : Below w1.heap.size w1 w2) : Below w.heap.size w w2 := h1.trans (h2.mono h1.size)
end
section
open Go.RowKit Fx
def Step (f : Bool) (o : Option Int) (v : Int) (g : Bool) : Prop := v = o.getD 0 /\ g = (f || o.isNone)
structure After (p : Addr) (g : Bool) (W W' : World) : Prop where
 cell : W'.cell? p = some (.bool g)
 frozen : W'.frozen? p = false
 size : W.heap.size <= W'.heap.size
 other : ∀ q : Addr, q.block < W.heap.size -> q.block ≠ p.block -> W'.cell? q = W.cell? q /\ W'.frozen? q = W.frozen? q
 below : ∀ (B : Nat) (w : World), Below B w W -> B <= p.block -> B <= W.heap.size -> Below B w W'
 kept : W'.os = W.os /\ W'.tape = W.tape /\ W'.output = W.output /\ ∀ k, k < W.heap.size -> k ≠ p.block -> W'.heap[k]? = W.heap[k]?
 beside : p.block < W.heap.size -> ∀ o, o ≠ p.off -> W'.cell? ⟨p.block, o, none⟩ = W.cell? ⟨p.block, o, none⟩ /\ W'.frozen? ⟨p.block, o, none⟩ = W.frozen? ⟨p.block, o, none⟩
theorem After.cellOf {p q : Addr} {g : Bool} {W W' : World} (h : After p g W W') {v : Value} (hq : W.cell? q = some v) (hne : q.block ≠ p.block) : W'.cell? q = some v := (h.other q (World.block_lt_of_cell? _ _ hq) hne).1.trans hq
theorem After.frozenOf {p q : Addr} {g : Bool} {W W' : World} (h : After p g W W') {v : Value} (hq : W.cell? q = some v) (hf : W.frozen? q = false) (hne : q.block ≠ p.block) : W'.frozen? q = false := (h.other q (World.block_lt_of_cell? _ _ hq) hne).2.trans hf
theorem After.on {w W W' : World} {p : Addr} {g : Bool} (h : After p g W W') (hb : Below w.heap.size w W) (hp : w.heap.size <= p.block) : Below w.heap.size w W' := h.below _ _ hb hp hb.size
theorem after_of {b off : Nat} {f : Bool} {o : Option Int} {W W' : World} (hb : Below W.heap.size (mark ⟨b, off, none⟩ o W) W') (hc : W.cell? ⟨b, off, none⟩ = some (.bool f)) (hf : W.frozen? ⟨b, off, none⟩ = false) :
  After ⟨b, off, none⟩ (f || o.isNone) W W' := by
 have hlt := World.block_lt_of_cell? _ _ hc
 cases o with
 | some n =>
  have hb : Below W.heap.size W W' := hb
  refine ⟨by rw [hb.cell hlt, hc]; simp, by rw [hb.frozen hlt, hf], hb.size, fun q hq _ => ⟨hb.cell hq, hb.frozen hq⟩, fun B w h _ hB => h.trans (hb.mono hB), ⟨hb.os, hb.tape, hb.output, fun k hk _ => hb.block k hk⟩, fun hp o _ => ⟨hb.cell hp, hb.frozen hp⟩⟩
 | none =>
  have hb : Below W.heap.size (W.setCell ⟨b, off, none⟩ (.bool true)) W' := hb
  have hs := hb.size
  simp [World.setCell] at hs
  refine ⟨?_, ?_, by simpa using hs, fun q hq hne => ⟨?_, ?_⟩, fun B w h hp hB => (h.setCell hp _).trans (hb.mono hB), ⟨hb.os, hb.tape, hb.output, fun k hk hne => (hb.block k hk).trans (Below.heap_setCell _ _ _ _ hne)⟩, fun hp o ho => ⟨?_, ?_⟩⟩
  ·rw [hb.cell hlt]; simp [go_sem, hc]
  ·rw [hb.frozen hlt]; simp [go_sem, hf]
  ·rw [hb.cell hq]; exact World.cell?_of_block (w := W) (Below.heap_setCell _ _ _ _ hne)
  ·rw [hb.frozen hq]; exact World.frozen?_of_block (w := W) (Below.heap_setCell _ _ _ _ hne)
  ·exact (hb.cell (p := ⟨b, o, none⟩) hlt).trans (World.cell?_setCell_other _ _ _ _ (fun e => ho (Addr.mk.inj e).2.1.symm))
  ·exact (hb.frozen (p := ⟨b, o, none⟩) hlt).trans (by simp [go_sem])
end
section
open Go.RowKit Go.Shelf Fx
def maxI (n a : Int) : Int := if a > n then a else n
def minI (n a : Int) : Int := if a < n then a else n
end
section
open Go.RowKit Go.Shelf
def pickZ (c n : Int) : Int := (if c < 0 then -(c + 1) else c) % n
theorem pickZ_lo (c : Int) {n : Int} (hn : 0 < n) : 0 <= pickZ c n := Int.emod_nonneg _ (by omega)
theorem pickZ_hi (c : Int) {n : Int} (hn : 0 < n) : pickZ c n < n := Int.emod_lt_of_pos _ hn
theorem pick_any (c n : Int) (w : World) (hc : -9223372036854775808 <= c /\ c <= 9223372036854775807) (hn : 0 < n) (hn' : n <= 9223372036854775807) :
  Calls Tryz.prog 57 #[.int .i64 c, .int .i64 n] w fun e w' => e = .returned (.int .i64 (pickZ c n)) /\ w' = w := by
 unfold pickZ
 by_cases h : c < 0
 ·have hb : 0 <= -(c + 1) := by omega
  have hb' : -(c + 1) <= 9223372036854775807 := by omega
  have hz : (n == 0) = false := beq_eq_false_iff_ne.2 (by omega)
  rw [if_pos h]
  go_enter Tryz.func57, Tryz.ntmps57
  go_wp2
  go_ret
  have e : (c + 1).tmod n = -(-(c + 1) % n) := by
   rw [<- Int.tmod_eq_emod_of_nonneg hb, Int.neg_tmod, Int.neg_neg]
  exact ⟨by rw [e, Int.neg_neg]; rfl, rfl⟩
 ·have hz : (n == 0) = false := beq_eq_false_iff_ne.2 (by omega)
  rw [if_neg h]
  go_enter Tryz.func57, Tryz.ntmps57
  go_wp2
  go_ret
  exact ⟨rfl, rfl⟩
theorem pick_below (c n : Int) (w : World) (hc : -9223372036854775808 <= c /\ c <= 9223372036854775807) (hn : 0 < n) (hn' : n <= 9223372036854775807) :
  Calls Tryz.prog 57 #[.int .i64 c, .int .i64 n] w fun e w' => e = .returned (.int .i64 (pickZ c n)) /\ Below w.heap.size w w' :=
 Calls.mono (pick_any c n w hc hn hn') (by rintro e w2 ⟨rfl, rfl⟩; exact ⟨rfl, Below.refl _ _⟩)
theorem arr6 {cs : Array Value} (h : cs.size = 6) : ∃ a b c d e f, cs = #[a, b, c, d, e, f] := by
 obtain ⟨l⟩ := cs
 match l, h with
 | [a, b, c, d, e, f], _ => exact ⟨a, b, c, d, e, f, rfl⟩
end
end Go.Proofs.YtffjifhojedmkaaGreat
