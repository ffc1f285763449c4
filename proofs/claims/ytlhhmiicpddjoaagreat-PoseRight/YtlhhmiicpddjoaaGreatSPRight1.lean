/- Package shape's small functions of points. -/
import Derived.Test.YtlhhmiicpddjoaaGreatSPRight0
import Derived.OneCell
set_option maxHeartbeats 4000000
set_option maxRecDepth 100000
set_option linter.unusedVariables false
namespace Go.Proofs.YtlhhmiicpddjoaaGreat
section
open Go.RowKit Go.Shelf
theorem between_any (n a b:Int) (w:World) :
  Calls Tryz.prog 128 #[.int .i64 n,.int .i64 a,.int .i64 b] w fun e w'=>e = .returned (.bool (decide (a <= n/\n <= b)))/\w' = w:=by
 by_cases h1:a <= n
 ·go_enter Tryz.func128,Tryz.ntmps128
  go_wp2
  go_ret
  exact ⟨by simp [h1],rfl⟩
 ·go_enter Tryz.func128,Tryz.ntmps128
  go_wp2
  go_ret
  exact ⟨by simp;omega,rfl⟩
theorem less_any (p q:Pt) (w:World) (hp:p.inB 1152921504606846976 = true) (hq:q.inB 1152921504606846976 = true) :
  Calls Tryz.prog 122 #[p.v,q.v] w fun e W=>e = .returned (p.sub q).v/\Below w.heap.size w W:=by
 obtain ⟨x,y,z⟩:=p
 obtain ⟨x',y',z'⟩:=q
 rw [Pt.inB_iff] at hp hq
 unfold Pt.v Pt.sub
 dsimp only at *
 go_enter Tryz.func122,Tryz.ntmps122
 go_wp2
 exact bodyPost_ret (v:=.agg #[.int .i64 (x - x'),.int .i64 (y - y'),.int .i64 (z - z')]) (by simp [results,Tryz.results122,go_sem]) rfl ⟨rfl,(((Below.refl _ w).alloc (Nat.le_refl _) _).alloc (by simp) _).alloc (by simp;omega) _⟩
theorem back_any (p:Pt) (w:World) (hp:p.inB 1152921504606846976 = true) :
  Calls Tryz.prog 123 #[p.v] w fun e W=>e = .returned p.neg.v/\Below w.heap.size w W:=by
 obtain ⟨x,y,z⟩:=p
 rw [Pt.inB_iff] at hp
 unfold Pt.v Pt.neg
 dsimp only at *
 go_enter Tryz.func123,Tryz.ntmps123
 go_wp2
 exact bodyPost_ret (v:=.agg #[.int .i64 (-x),.int .i64 (-y),.int .i64 (-z)]) (by simp [results,Tryz.results123,go_sem]) rfl ⟨rfl,(((((Below.refl _ w).alloc (Nat.le_refl _) _).alloc (by simp) _).alloc (by simp;omega) _).alloc (by simp;omega) _).alloc (by simp;omega) _⟩
theorem prod_in {x y A B:Int} (hx:-A <= x/\x <= A) (hy:-B <= y/\y <= B) (h:A * B <= 1152921504606846976):-1152921504606846976 <= x * y/\x * y <= 1152921504606846976:=by
 have:=mul_in hx hy
 omega
theorem dot_any (p q:Pt) (w:World) (hp:p.inB 34359738368 = true) (hq:q.inB 131072 = true) :
  Calls Tryz.prog 121 #[p.v,q.v] w fun e W=>e = .returned (.int .i64 (p.dot q))/\Below w.heap.size w W:=by
 obtain ⟨x,y,z⟩:=p
 obtain ⟨x',y',z'⟩:=q
 rw [Pt.inB_iff] at hp hq
 unfold Pt.v Pt.dot
 dsimp only at *
 have h1:=prod_in hp.1 hq.1 (by decide)
 have h2:=prod_in hp.2.1 hq.2.1 (by decide)
 have h3:=prod_in hp.2.2 hq.2.2 (by decide)
 clear hp hq
 go_enter Tryz.func121,Tryz.ntmps121
 go_wp2
 go_ret
 exact ⟨rfl,((Below.refl _ w).alloc (Nat.le_refl _) _).alloc (by simp) _⟩
theorem cross_any (p q:Pt) (w:World) (hp:p.inB 131072 = true) (hq:q.inB 131072 = true) :
  Calls Tryz.prog 134 #[p.v,q.v] w fun e W=>e = .returned (p.cross q).v/\Below w.heap.size w W:=by
 obtain ⟨x,y,z⟩:=p
 obtain ⟨x',y',z'⟩:=q
 rw [Pt.inB_iff] at hp hq
 unfold Pt.v Pt.cross
 dsimp only at *
 have h1:=prod_in hp.2.1 hq.2.2 (by decide)
 have h2:=prod_in hp.2.2 hq.2.1 (by decide)
 have h3:=prod_in hp.2.2 hq.1 (by decide)
 have h4:=prod_in hp.1 hq.2.2 (by decide)
 have h5:=prod_in hp.1 hq.2.1 (by decide)
 have h6:=prod_in hp.2.1 hq.1 (by decide)
 clear hp hq
 go_enter Tryz.func134,Tryz.ntmps134
 go_wp2
 refine bodyPost_ret (v:=.agg #[.int .i64 (y * z' - z * y'),.int .i64 (z * x' - x * z'),.int .i64 (x * y' - y * x')]) ?_ rfl ⟨rfl,(((Below.refl _ w).alloc (Nat.le_refl _) _).alloc (by simp) _).alloc (by simp;omega) _⟩
 simp [results,Tryz.results134,go_sem]
theorem across_any (a b c:Pt) (w0:World) (ha:a.inB 65536 = true) (hb:b.inB 65536 = true) (hc:c.inB 65536 = true) :
  Calls Tryz.prog 120 #[a.v,b.v,c.v] w0 fun e W=>e = .returned ((b.sub a).cross (c.sub a)).v/\Below w0.heap.size w0 W:=by
 have L1:Hid _:=fun w'=>less_any b a w' (inB_mono hb (by decide)) (inB_mono ha (by decide))
 have L2:Hid _:=fun w'=>less_any c a w' (inB_mono hc (by decide)) (inB_mono ha (by decide))
 have L3:Hid _:=fun w'=>cross_any (b.sub a) (c.sub a) w' (sub_in hb ha) (sub_in hc ha)
 clear ha hb hc
 obtain ⟨ax,ay,az⟩:=a
 obtain ⟨bx,by_,bz⟩:=b
 obtain ⟨cx,cy,cz⟩:=c
 unfold Pt.v Pt.sub Pt.cross at *
 dsimp only at *
 go_enter Tryz.func120,Tryz.ntmps120
 go_wp2_with (fail)
 obtain ⟨V,hV⟩:∃ V:World,V = ((((w0.alloc (.cells #[.int .i64 ax,.int .i64 ay,.int .i64 az] 23)).alloc (.cells #[.int .i64 bx,.int .i64 by_,.int .i64 bz] 23)).alloc (.cells #[.int .i64 cx,.int .i64 cy,.int .i64 cz] 23)).alloc (.cells #[.int .i64 0,.int .i64 0,.int .i64 0] 23)):=⟨_,rfl⟩
 have hBV:Below w0.heap.size w0 V:=by rw [hV];exact (((((Below.refl _ w0).alloc (by simp;try omega) _).alloc (by simp;try omega) _).alloc (by simp;try omega) _).alloc (by simp;try omega) _)
 have V0_0:V.cell? ⟨w0.heap.size,0,none⟩ = some (.int .i64 ax):=by rw [hV];simp [go_sem]
 have V0_1:V.cell? ⟨w0.heap.size,1,none⟩ = some (.int .i64 ay):=by rw [hV];simp [go_sem]
 have V0_2:V.cell? ⟨w0.heap.size,2,none⟩ = some (.int .i64 az):=by rw [hV];simp [go_sem]
 have V1_0:V.cell? ⟨w0.heap.size + 1,0,none⟩ = some (.int .i64 bx):=by rw [hV];simp [go_sem]
 have V1_1:V.cell? ⟨w0.heap.size + 1,1,none⟩ = some (.int .i64 by_):=by rw [hV];simp [go_sem]
 have V1_2:V.cell? ⟨w0.heap.size + 1,2,none⟩ = some (.int .i64 bz):=by rw [hV];simp [go_sem]
 have V2_0:V.cell? ⟨w0.heap.size + 1 + 1,0,none⟩ = some (.int .i64 cx):=by rw [hV];simp [go_sem]
 have V2_1:V.cell? ⟨w0.heap.size + 1 + 1,1,none⟩ = some (.int .i64 cy):=by rw [hV];simp [go_sem]
 have V2_2:V.cell? ⟨w0.heap.size + 1 + 1,2,none⟩ = some (.int .i64 cz):=by rw [hV];simp [go_sem]
 have V3_0:V.cell? ⟨w0.heap.size + 1 + 1 + 1,0,none⟩ = some (.int .i64 0):=by rw [hV];simp [go_sem]
 have V3_1:V.cell? ⟨w0.heap.size + 1 + 1 + 1,1,none⟩ = some (.int .i64 0):=by rw [hV];simp [go_sem]
 have V3_2:V.cell? ⟨w0.heap.size + 1 + 1 + 1,2,none⟩ = some (.int .i64 0):=by rw [hV];simp [go_sem]
 have Vf3_0:V.frozen? ⟨w0.heap.size + 1 + 1 + 1,0,none⟩ = false:=by rw [hV];simp [go_sem]
 have Vf3_1:V.frozen? ⟨w0.heap.size + 1 + 1 + 1,1,none⟩ = false:=by rw [hV];simp [go_sem]
 have Vf3_2:V.frozen? ⟨w0.heap.size + 1 + 1 + 1,2,none⟩ = false:=by rw [hV];simp [go_sem]
 rw [<- hV]
 clear hV
 refine RV.rs [.some (.agg #[.int .i64 bx,.int .i64 by_,.int .i64 bz]),.some (.agg #[.int .i64 ax,.int .i64 ay,.int .i64 az]),.some (.agg #[.int .i64 (bx - ax),.int .i64 (by_ - ay),.int .i64 (bz - az)]),.some (.agg #[.int .i64 cx,.int .i64 cy,.int .i64 cz]),.some (.agg #[.int .i64 ax,.int .i64 ay,.int .i64 az]),.some (.agg #[.int .i64 (cx - ax),.int .i64 (cy - ay),.int .i64 (cz - az)]),.some (.agg #[.int .i64 ((by_ - ay) * (cz - az) - (bz - az) * (cy - ay)),.int .i64 ((bz - az) * (cx - ax) - (bx - ax) * (cz - az)),.int .i64 ((bx - ax) * (cy - ay) - (by_ - ay) * (cx - ax))]),none] [8,9,10,11,12,13,14,0] [(3,.pointer (some ⟨w0.heap.size,0,none⟩)),(4,.pointer (some ⟨w0.heap.size + 1,0,none⟩)),(5,.pointer (some ⟨w0.heap.size + 1 + 1,0,none⟩)),(6,.pointer (some ⟨w0.heap.size + 1 + 1 + 1,0,none⟩))] (fun γ L w9=>(L 7 = false/\Below V.heap.size V w9) \/ (L 7 = true/\∃ w,Below V.heap.size V w/\w9 = (((w.setCell ⟨w0.heap.size + 1 + 1 + 1,0,none⟩ (.int .i64 ((by_ - ay) * (cz - az) - (bz - az) * (cy - ay)))).setCell ⟨w0.heap.size + 1 + 1 + 1,1,none⟩ (.int .i64 ((bz - az) * (cx - ax) - (bx - ax) * (cz - az)))).setCell ⟨w0.heap.size + 1 + 1 + 1,2,none⟩ (.int .i64 ((bx - ax) * (cy - ay) - (by_ - ay) * (cx - ax)))))) ⟨rfl,rfl,rfl,rfl,trivial⟩ ?_ ?_ ?_
 ·exact Or.inl ⟨rfl,(Below.refl _ V).drew⟩
 ·intro D WA Z hD hWA hZ T
  simp only [RV.Outs,RV.Slots,Nat.reduceAdd] at T
  iterate 2 (refine RV.cc _ (RV.pu T (fun γ v L w hl h=>by rw [RV.mn (L:=L) (i:=_) (j:=7) (by decide)];exact h) (fun γ L a w hH hl h9 k9=>⟨_,?_,rfl⟩)) ?_;· have hB9:=early9 hH.glob (RV.ny hH (RV.wt (j:=7) hWA (by kernel_rfl)) hl);have q0:=c_after hB9 V1_0;have q1:=c_after hB9 V1_1;have q2:=c_after hB9 V1_2;have q3:=c_after hB9 V0_0;have q4:=c_after hB9 V0_1;have q5:=c_after hB9 V0_2;simp [execOp,go_sem,h9,q0,q1,q2,q3,q4,q5])
  refine RV.cc _ (RV.dc (fun γ L a w hH hl hA=>by have h9:=T γ L a w hH;have k9:=hA;simp [Region.binds] at k9;have hB9:=early9 hH.glob (RV.ny hH (RV.wt (j:=7) (i:=2) hWA (by kernel_rfl)) hl);exact ⟨122,#[.agg #[.int .i64 bx,.int .i64 by_,.int .i64 bz],.agg #[.int .i64 ax,.int .i64 ay,.int .i64 az]],by simp [go_sem,h9,k9],Calls.mono (L1.out w) (by rintro e w2 ⟨rfl,hb⟩;exact ⟨_,rfl,rfl,fun j v _ h=>h.keep _,Or.inl ⟨by rw [RV.mn (L:=L) (i:=2) (j:=7) (by decide)];exact RV.ny hH (RV.wt (j:=7) (i:=2) hWA (by kernel_rfl)) hl,hB9.trans (hb.mono hB9.size)⟩⟩)⟩)) ?_
  iterate 2 (refine RV.cc _ (RV.pu T (fun γ v L w hl h=>by rw [RV.mn (L:=L) (i:=_) (j:=7) (by decide)];exact h) (fun γ L a w hH hl h9 k9=>⟨_,?_,rfl⟩)) ?_;· have hB9:=early9 hH.glob (RV.ny hH (RV.wt (j:=7) hWA (by kernel_rfl)) hl);have q0:=c_after hB9 V2_0;have q1:=c_after hB9 V2_1;have q2:=c_after hB9 V2_2;have q3:=c_after hB9 V0_0;have q4:=c_after hB9 V0_1;have q5:=c_after hB9 V0_2;simp [execOp,go_sem,h9,q0,q1,q2,q3,q4,q5])
  refine RV.cc _ (RV.dc (fun γ L a w hH hl hA=>by have h9:=T γ L a w hH;have k9:=hA;simp [Region.binds] at k9;have hB9:=early9 hH.glob (RV.ny hH (RV.wt (j:=7) (i:=5) hWA (by kernel_rfl)) hl);exact ⟨122,#[.agg #[.int .i64 cx,.int .i64 cy,.int .i64 cz],.agg #[.int .i64 ax,.int .i64 ay,.int .i64 az]],by simp [go_sem,h9,k9],Calls.mono (L2.out w) (by rintro e w2 ⟨rfl,hb⟩;exact ⟨_,rfl,rfl,fun j v _ h=>h.keep _,Or.inl ⟨by rw [RV.mn (L:=L) (i:=5) (j:=7) (by decide)];exact RV.ny hH (RV.wt (j:=7) (i:=5) hWA (by kernel_rfl)) hl,hB9.trans (hb.mono hB9.size)⟩⟩)⟩)) ?_
  refine RV.cc _ (RV.dc (fun γ L a w hH hl hA=>by have h9:=T γ L a w hH;have k9:=hA;simp [Region.binds] at k9;have hB9:=early9 hH.glob (RV.ny hH (RV.wt (j:=7) (i:=6) hWA (by kernel_rfl)) hl);exact ⟨134,#[.agg #[.int .i64 (bx - ax),.int .i64 (by_ - ay),.int .i64 (bz - az)],.agg #[.int .i64 (cx - ax),.int .i64 (cy - ay),.int .i64 (cz - az)]],by simp [go_sem,h9,k9],Calls.mono (L3.out w) (by rintro e w2 ⟨rfl,hb⟩;exact ⟨_,rfl,rfl,fun j v _ h=>h.keep _,Or.inl ⟨by rw [RV.mn (L:=L) (i:=6) (j:=7) (by decide)];exact RV.ny hH (RV.wt (j:=7) (i:=6) hWA (by kernel_rfl)) hl,hB9.trans (hb.mono hB9.size)⟩⟩)⟩)) ?_
  refine RV.cc _ (RV.does_store (fun γ L a w hH hl hA=>by have h9:=T γ L a w hH;have k9:=hA;simp [Region.binds] at k9;have hB9:=early9 hH.glob hl;have z0:=c_after hB9 V3_0;have zf0:=f_after hB9 V3_0 Vf3_0;have z1:=c_after hB9 V3_1;have zf1:=f_after hB9 V3_1 Vf3_1;have z2:=c_after hB9 V3_2;have zf2:=f_after hB9 V3_2 Vf3_2;exact ⟨(((w.setCell ⟨w0.heap.size + 1 + 1 + 1,0,none⟩ (.int .i64 ((by_ - ay) * (cz - az) - (bz - az) * (cy - ay)))).setCell ⟨w0.heap.size + 1 + 1 + 1,1,none⟩ (.int .i64 ((bz - az) * (cx - ax) - (bx - ax) * (cz - az)))).setCell ⟨w0.heap.size + 1 + 1 + 1,2,none⟩ (.int .i64 ((bx - ax) * (cy - ay) - (by_ - ay) * (cx - ax)))),by simp [execOp,go_sem,z0,zf0,z1,zf1,z2,zf2,h9,k9],trivial,fun j v _ h=>h.keep _,Or.inr ⟨RV.more_self,w,hB9,rfl⟩⟩)) ?_
  exact RV.AllDo.nil
 ·intro γ w5 L9 hL hI9 hG9
  obtain ⟨w8,hb8,rfl⟩:=late9 hG9 (hL 7 (by decide))
  clear hL hI9 hG9
  simp only [RV.putL,Act.put,List.setIfInBounds_toArray,List.set_cons_zero,List.set_cons_succ]
  have q0:=c_after hb8 V3_0
  have q1:=c_after hb8 V3_1
  have q2:=c_after hb8 V3_2
  go_wp2
  refine bodyPost_ret (v:=.agg #[.int .i64 ((by_ - ay) * (cz - az) - (bz - az) * (cy - ay)),.int .i64 ((bz - az) * (cx - ax) - (bx - ax) * (cz - az)),.int .i64 ((bx - ax) * (cy - ay) - (by_ - ay) * (cx - ax))]) (by simp [results,Tryz.results120,go_sem,q0,q1,q2]) rfl ⟨rfl,?_⟩
  exact ((((hBV.trans (hb8.mono hBV.size)).setCell (by simp;omega) _).setCell (by simp;omega) _).setCell (by simp;omega) _)
theorem divided_any (p:Pt) (n:Int) (w:World) (hp:p.inB 1152921504606846976 = true) (hn:0 < n) (hn':n <= 1152921504606846976):
  Calls Tryz.prog 112 #[p.v,.int .i64 n] w fun e W=>e = .returned (p.by n).v/\Below w.heap.size w W:=by
 obtain ⟨x,y,z⟩:=p
 rw [Pt.inB_iff] at hp
 unfold Pt.v Pt.by
 dsimp only at *
 go_enter Tryz.func112,Tryz.ntmps112
 go_wp2
 go_region
 go_wp2
 exact bodyPost_ret (v:=.agg #[.int .i64 (x.tdiv n),.int .i64 (y.tdiv n),.int .i64 (z.tdiv n)]) (by simp [results,Tryz.results112,go_sem]) rfl ⟨rfl,(((Below.refl _ w).alloc (Nat.le_refl _) _).alloc (by simp) _).drew⟩
theorem within_any (p:Pt) (m:Int) (w:World) (hm:0 <= m) (hm':m <= 1152921504606846976) :
  Calls Tryz.prog 110 #[p.v,.int .i64 m] w fun e W=>e = .returned (.bool (p.inB m))/\Below w.heap.size w W:=by
 obtain ⟨x,y,z⟩:=p
 have HE:Hid (∀ b:Bool,(b = true ↔ (-m <= x/\x <= m)/\(-m <= y/\y <= m)/\(-m <= z/\z <= m))->Pt.inB ⟨x,y,z⟩ m = b):=fun b h=>by
  rw [Bool.eq_iff_iff,h,Pt.inB_iff]
 unfold Pt.v
 go_enter Tryz.func110,Tryz.ntmps110
 go_wp2
 all_goals
  go_ret
  exact ⟨congrArg (fun b=>Ending.returned (.bool b)) (HE.out _ ⟨fun h=>by first | (cases h;done) | omega | (have h':=of_decide_eq_true h;omega),fun h=>by first | rfl | (exfalso;omega) | exact decide_eq_true (by omega)⟩).symm,n_after w _⟩
theorem gcd_step {x y:Int} (h:y ≠ 0):Nat.gcd y.natAbs (x.tmod y).natAbs = Nat.gcd x.natAbs y.natAbs:=by
 rw [Int.natAbs_tmod,Nat.gcd_comm x.natAbs,Nat.gcd_rec y.natAbs x.natAbs,Nat.gcd_comm]
theorem tmod_lt {x y:Int} (h:y ≠ 0):(x.tmod y).natAbs < y.natAbs:=by
 rw [Int.natAbs_tmod];exact Nat.mod_lt _ (by omega)
theorem gcd_any (a b:Int) (w:World) (ha:-1152921504606846976 <= a/\a <= 1152921504606846976) (hb:-1152921504606846976 <= b/\b <= 1152921504606846976) :
  Calls Tryz.prog 129 #[.int .i64 a,.int .i64 b] w fun e W=>e = .returned (.int .i64 (Nat.gcd a.natAbs b.natAbs:Nat))/\Below w.heap.size w W:=by
 go_enter Tryz.func129,Tryz.ntmps129
 go_wp2
 go_loopw [0,1] (fun s t wr=>∃ x y:Int,s = .int .i64 x/\t = .int .i64 y/\(-1152921504606846976 <= x/\x <= 1152921504606846976)/\(-1152921504606846976 <= y/\y <= 1152921504606846976)/\Hid (Nat.gcd x.natAbs y.natAbs = Nat.gcd a.natAbs b.natAbs)/\Hid (Below w.heap.size w wr)) (fun _ t _=>(intOf t).natAbs)
 case atStart=>exact ⟨a,b,rfl,rfl,ha,hb,rfl,Below.refl _ _⟩
 case round =>
  obtain ⟨x,y,rfl,rfl,hx,hy,HG,HB⟩:=hrel
  by_cases h0:y = 0
  ·subst h0
   have HE:Hid (((Nat.gcd a.natAbs b.natAbs:Nat):Int) = if x < -x then -x else x):=by
    show _ = _
    rw [<- HG.out]
    simp only [Int.natAbs_zero,Nat.gcd_zero_right]
    split <;> omega
   clear HG
   rcases Int.lt_trichotomy x 0 with h | h | h
   ·go_wp2
    go_ret
    refine ⟨?_,HB.out⟩
    rw [HE.out]
    exact congrArg (fun n=>Ending.returned (.int .i64 n)) (by rw [if_pos (by omega)])
   ·subst h
    go_wp2
    go_ret
    exact ⟨by rw [HE.out];rfl,HB.out⟩
   ·go_wp2
    go_ret
    refine ⟨?_,HB.out⟩
    rw [HE.out]
    exact congrArg (fun n=>Ending.returned (.int .i64 n)) (by rw [if_neg (by omega)])
  ·have HS:Hid _:=gcd_step (x:=x) h0
   have hlt:=tmod_lt (x:=x) h0
   go_wp2
   go_region
   go_wp2
   go_roundw
   case rel=>exact ⟨y,x.tmod y,rfl,rfl,hy,by omega,HS.out.trans HG.out,HB.out.drew⟩
   case measure=>exact hlt
end
section
open Go.RowKit Go.Shelf
theorem gcd_le {a b B:Nat} (ha:a <= B) (hb:b <= B):Nat.gcd a b <= B:=by
 by_cases h:a = 0
 ·subst h;rw [Nat.gcd_zero_left];exact hb
 ·exact Nat.le_trans (Nat.le_of_dvd (by omega) (Nat.gcd_dvd_left a b)) ha
theorem lowest_any (p:Pt) (w0:World) (hp:p.inB 4398046511104 = true) :
  Calls Tryz.prog 111 #[p.v] w0 fun e W=>e = .returned p.low.v/\Below w0.heap.size w0 W:=by
 have hq:=hp
 rw [Pt.inB_iff] at hq
 have b1:Nat.gcd p.x.natAbs p.y.natAbs <= 4398046511104:=gcd_le (by omega) (by omega)
 have b2:p.g <= 4398046511104:=gcd_le b1 (by omega)
 have G1:Hid _:=fun w'=>gcd_any p.x p.y w' (by omega) (by omega)
 have G2:Hid (∀ w',Calls Tryz.prog 129 #[.int .i64 (Nat.gcd p.x.natAbs p.y.natAbs:Nat),.int .i64 p.z] w' fun e W=>e = .returned (.int .i64 (p.g:Nat))/\Below w'.heap.size w' W):=fun w'=>gcd_any (Nat.gcd p.x.natAbs p.y.natAbs:Nat) p.z w' (by omega) (by omega)
 have HD:Hid (p.g ≠ 0->∀ w',Calls Tryz.prog 112 #[p.v,.int .i64 (p.g:Nat)] w' fun e W=>e = .returned (p.by p.g).v/\Below w'.heap.size w' W):=fun h w'=>divided_any p p.g w' (inB_mono hp (by decide)) (by omega) (by omega)
 have HL:Hid (p.low = if p.g = 0 then p else p.by p.g):=rfl
 generalize p.low = r at *
 generalize Nat.gcd p.x.natAbs p.y.natAbs = m1 at *
 generalize p.g = m2 at *
 obtain ⟨x,y,z⟩:=p
 clear hp hq
 unfold Pt.v at *
 dsimp only at *
 go_enter Tryz.func111,Tryz.ntmps111
 go_wp2_with (fail)
 obtain ⟨V,hV⟩:∃ V:World,V = ((w0.alloc (.cells #[.int .i64 x,.int .i64 y,.int .i64 z] 23)).alloc (.cells #[.int .i64 0,.int .i64 0,.int .i64 0] 23)):=⟨_,rfl⟩
 have hBV:Below w0.heap.size w0 V:=by rw [hV];exact (((Below.refl _ w0).alloc (by simp;try omega) _).alloc (by simp;try omega) _)
 have V0_0:V.cell? ⟨w0.heap.size,0,none⟩ = some (.int .i64 x):=by rw [hV];simp [go_sem]
 have V0_1:V.cell? ⟨w0.heap.size,1,none⟩ = some (.int .i64 y):=by rw [hV];simp [go_sem]
 have V0_2:V.cell? ⟨w0.heap.size,2,none⟩ = some (.int .i64 z):=by rw [hV];simp [go_sem]
 have V1_0:V.cell? ⟨w0.heap.size + 1,0,none⟩ = some (.int .i64 0):=by rw [hV];simp [go_sem]
 have V1_1:V.cell? ⟨w0.heap.size + 1,1,none⟩ = some (.int .i64 0):=by rw [hV];simp [go_sem]
 have V1_2:V.cell? ⟨w0.heap.size + 1,2,none⟩ = some (.int .i64 0):=by rw [hV];simp [go_sem]
 have Vf1_0:V.frozen? ⟨w0.heap.size + 1,0,none⟩ = false:=by rw [hV];simp [go_sem]
 have Vf1_1:V.frozen? ⟨w0.heap.size + 1,1,none⟩ = false:=by rw [hV];simp [go_sem]
 have Vf1_2:V.frozen? ⟨w0.heap.size + 1,2,none⟩ = false:=by rw [hV];simp [go_sem]
 rw [<- hV]
 clear hV
 refine RV.rs [.some (.pointer (some ⟨w0.heap.size,0,none⟩)),.some (.int .i64 x),.some (.pointer (some ⟨w0.heap.size,1,none⟩)),.some (.int .i64 y),.some (.int .i64 ((m1:Nat))),.some (.pointer (some ⟨w0.heap.size,2,none⟩)),.some (.int .i64 z),.some (.int .i64 ((m2:Nat))),.some (.int .i64 ((m2:Nat)))] [5,6,7,8,9,10,11,12,4] [(1,.pointer (some ⟨w0.heap.size,0,none⟩))] (fun γ L w9=>Below V.heap.size V w9) ⟨rfl,trivial⟩ ?_ ?_ ?_
 ·exact (Below.refl _ V).drew
 ·intro D WA Z hD hWA hZ T
  simp only [RV.Outs,RV.Slots,Nat.reduceAdd] at T
  iterate 4 first
   | (refine RV.cc _ (RV.pu T (fun γ v L w hl h=>h) (fun γ L a w hH hl h9 k9=>⟨_,?_,rfl⟩)) ?_;· simp [execOp,go_sem,h9])
   | (refine RV.cc _ (RV.pu T (fun γ v L w hl h=>h) (fun γ L a w hH hl h9 k9=>⟨_,?_,rfl⟩)) ?_;· have hB9:=hH.glob;have q0:=c_after hB9 V0_0;have q1:=c_after hB9 V0_1;simp [Region.binds] at k9;simp [execOp,go_sem,h9,k9,q0,q1])
  refine RV.cc _ (RV.dc (fun γ L a w hH hl hA=>by have h9:=T γ L a w hH;have k9:=hA;simp [Region.binds] at k9;have hB9:=hH.glob;exact ⟨129,#[.int .i64 x,.int .i64 y],by simp [go_sem,h9,k9],Calls.mono (G1.out w) (by rintro e w2 ⟨rfl,hb⟩;exact ⟨_,rfl,rfl,fun j v _ h=>h.keep _,hB9.trans (hb.mono hB9.size)⟩)⟩)) ?_
  iterate 2 first
   | (refine RV.cc _ (RV.pu T (fun γ v L w hl h=>h) (fun γ L a w hH hl h9 k9=>⟨_,?_,rfl⟩)) ?_;· simp [execOp,go_sem,h9])
   | (refine RV.cc _ (RV.pu T (fun γ v L w hl h=>h) (fun γ L a w hH hl h9 k9=>⟨_,?_,rfl⟩)) ?_;· have hB9:=hH.glob;have q0:=c_after hB9 V0_2;simp [Region.binds] at k9;simp [execOp,go_sem,h9,k9,q0])
  refine RV.cc _ (RV.dc (fun γ L a w hH hl hA=>by have h9:=T γ L a w hH;have k9:=hA;simp [Region.binds] at k9;have hB9:=hH.glob;exact ⟨129,#[.int .i64 ((m1:Nat)),.int .i64 z],by simp [go_sem,h9,k9],Calls.mono (G2.out w) (by rintro e w2 ⟨rfl,hb⟩;exact ⟨_,rfl,rfl,fun j v _ h=>h.keep _,hB9.trans (hb.mono hB9.size)⟩)⟩)) ?_
  (refine RV.cc _ (RV.pu T (fun γ v L w hl h=>h) (fun γ L a w hH hl h9 k9=>⟨_,?_,rfl⟩)) ?_;· simp [Region.binds] at k9;simp [execOp,go_sem,h9,k9])
  exact RV.AllDo.nil
 ·intro γ w5 L9 hL hI9 hG9
  have hb8:=hG9
  clear hL hI9 hG9
  simp only [RV.putL,Act.put,List.setIfInBounds_toArray,List.set_cons_zero,List.set_cons_succ]
  have hB5:=hBV.trans (hb8.mono hBV.size)
  have p0:=c_after hb8 V0_0
  have p1:=c_after hb8 V0_1
  have p2:=c_after hb8 V0_2
  have q0:=c_after hb8 V1_0
  have q1:=c_after hb8 V1_1
  have q2:=c_after hb8 V1_2
  have k0:=f_after hb8 V1_0 Vf1_0
  have k1:=f_after hb8 V1_1 Vf1_1
  have k2:=f_after hb8 V1_2 Vf1_2
  by_cases h0:m2 = 0
  ·have h0':(m2:Int) = 0:=by omega
   have e:r = ⟨x,y,z⟩:=by rw [HL.out,if_pos h0]
   subst e
   clear HL HD G1 G2 h0
   go_wp2_with (fail)
   refine bodyPost_ret (v:=.agg #[.int .i64 x,.int .i64 y,.int .i64 z]) (by simp [results,Tryz.results111,go_sem,q0,q1,q2]) rfl ⟨rfl,?_⟩
   exact (((hB5.setCell (by simp) _).setCell (by simp) _).setCell (by simp) _)
  ·have h0':¬ (m2:Int) = 0:=by omega
   have e:r = Pt.by ⟨x,y,z⟩ m2:=by rw [HL.out,if_neg h0]
   have HD:Hid _:=HD.out h0
   rw [<- e] at HD
   obtain ⟨rx,ry,rz⟩:=r
   clear e HL G1 G2
   dsimp only at *
   go_wp2_with (fail)
   refine Calls.mono (HD.out _) ?_
   clear HD
   rintro e W9 ⟨rfl,hb9⟩
   have q0:=c_after hb9 q0
   have q1:=c_after hb9 q1
   have q2:=c_after hb9 q2
   have k0:=f_after hb9 (c_after hb8 V1_0) k0
   have k1:=f_after hb9 (c_after hb8 V1_1) k1
   have k2:=f_after hb9 (c_after hb8 V1_2) k2
   go_wp2
   refine bodyPost_ret (v:=.agg #[.int .i64 rx,.int .i64 ry,.int .i64 rz]) (by simp [results,Tryz.results111,go_sem,q0,q1,q2]) rfl ⟨rfl,?_⟩
   exact ((((b_step hB5 hb9).setCell (by simp) _).setCell (by simp) _).setCell (by simp) _)
theorem halveF_step (k:Nat) (q:Pt) (h:q.inB 1048576 = false) (hb:q.inB (2 ^ k:Nat) = true):∃ j,k = j + 1/\halveF k q = halveF j (q.by 2)/\(q.by 2).inB (2 ^ j:Nat) = true:=by
 cases k with
 | zero=>rw [inB_mono hb (by decide)] at h;cases h
 | succ j =>
  refine ⟨j,rfl,by rw [halveF,if_neg (by rw [h];decide)],half_in ?_⟩
  rw [Nat.pow_succ,Nat.mul_comm,Int.natCast_mul] at hb
  exact hb
theorem cast_pow (k:Nat) (h:k <= 43):(((2 ^ k:Nat):Nat):Int) <= 8796093022208:=by
 have:=Nat.pow_le_pow_right (n:=2) (by decide) h
 have e:2 ^ 43 = 8796093022208:=by decide
 omega
theorem short_any (p:Pt) (w0:World) :
  Calls Tryz.prog 82 #[p.v] w0 fun e W=>e = .returned p.short.v/\Below w0.heap.size w0 W:=by
 have HW:Hid (∀ w',Calls Tryz.prog 110 #[p.v,.int .i64 4398046511104] w' fun e W=>e = .returned (.bool (p.inB 4398046511104))/\Below w'.heap.size w' W):=fun w'=>within_any p _ w' (by decide) (by decide)
 have HX:Hid (∀ q:Pt,∀ w',Calls Tryz.prog 110 #[q.v,.int .i64 1048576] w' fun e W=>e = .returned (.bool (q.inB 1048576))/\Below w'.heap.size w' W):=fun q w'=>within_any q _ w' (by decide) (by decide)
 have HLO:Hid (∀ q:Pt,q.inB 4398046511104 = true->∀ w',Calls Tryz.prog 111 #[q.v] w' fun e W=>e = .returned q.low.v/\Below w'.heap.size w' W):=fun q hq w'=>lowest_any q w' hq
 have HD:Hid (∀ q:Pt,q.inB 1152921504606846976 = true->∀ w',Calls Tryz.prog 112 #[q.v,.int .i64 2] w' fun e W=>e = .returned (q.by 2).v/\Below w'.heap.size w' W):=fun q hq w'=>divided_any q 2 w' hq (by decide) (by decide)
 have bx0:Hid (Box3 ((w0.alloc (.cells #[.int .i64 p.x,.int .i64 p.y,.int .i64 p.z] 23)).alloc (.cells #[.int .i64 0,.int .i64 0,.int .i64 0] 23)) w0.heap.size p):=(Box3.new w0 p.x p.y p.z _).step (n_after _ _)
 have bx1:Hid (Box3 ((w0.alloc (.cells #[.int .i64 p.x,.int .i64 p.y,.int .i64 p.z] 23)).alloc (.cells #[.int .i64 0,.int .i64 0,.int .i64 0] 23)) (w0.heap.size + 1) Pt.O):=by have:=Box3.new (w0.alloc (.cells #[.int .i64 p.x,.int .i64 p.y,.int .i64 p.z] 23)) 0 0 0 23;rwa [World.size_alloc] at this
 have hB0:Hid (Below w0.heap.size w0 ((w0.alloc (.cells #[.int .i64 p.x,.int .i64 p.y,.int .i64 p.z] 23)).alloc (.cells #[.int .i64 0,.int .i64 0,.int .i64 0] 23))):=b_step (n_after w0 _) (n_after _ _)
 obtain ⟨r,hr⟩:∃ r,p.short = r:=⟨_,rfl⟩
 rw [hr]
 have HR:Hid _:=hr
 clear hr
 unfold Pt.v at *
 go_enter Tryz.func82,Tryz.ntmps82
 go_wp2_with (fail)
 refine Calls.mono (HW.out _) ?_
 clear HW
 rintro e V ⟨rfl,hb⟩
 have b0:Hid _:=bx0.out.step hb
 have b1:Hid _:=bx1.out.step hb
 have hB:Hid _:=b_step hB0.out hb
 clear bx0 bx1 hB0 hb
 cases hin:p.inB 4398046511104 with
 | false =>
  have e:r = Pt.O:=by rw [<- HR.out];unfold Pt.short;rw [if_neg (by rw [hin];decide)]
  clear HR
  subst e
  obtain ⟨c0,c1,c2,f0,f1,f2⟩:=b1.out
  simp only [Pt.O] at c0 c1 c2
  go_wp2_with (fail)
  refine bodyPost_ret (v:=.agg #[.int .i64 0,.int .i64 0,.int .i64 0]) (by simp [results,Tryz.results82,go_sem,c0,c1,c2]) rfl ⟨rfl,?_⟩
  exact set3_below hB.out (by omega) 0 0 0
 | true =>
  have hlow:=Pt.low_in hin
  have HR:Hid (r = (halveF 43 p.low).low):=by show _ = _;rw [<- HR.out];unfold Pt.short;rw [if_pos hin];rfl
  have HL1:Hid _:=HLO.out p hin
  obtain ⟨c0,c1,c2,f0,f1,f2⟩:=b0.out
  go_wp2_with (fail)
  refine Calls.mono (HL1.out _) ?_
  clear HL1
  rintro e V2 ⟨rfl,hb⟩
  have b0:Hid (Box3 (set3 V2 w0.heap.size p.low.x p.low.y p.low.z) w0.heap.size p.low):=(b0.out.step hb).set _ _ _
  have b1:Hid (Box3 (set3 V2 w0.heap.size p.low.x p.low.y p.low.z) (w0.heap.size + 1) Pt.O):=(b1.out.step hb).other (by omega) _ _ _
  have hB:Hid (Below w0.heap.size w0 (set3 V2 w0.heap.size p.low.x p.low.y p.low.z)):=set3_below (b_step hB.out hb) (Nat.le_refl _) _ _ _
  have d0:=c_after hb c0
  have d1:=c_after hb c1
  have d2:=c_after hb c2
  have f0:=f_after hb c0 f0
  have f1:=f_after hb c1 f1
  have f2:=f_after hb c2 f2
  unfold set3 at b0 b1 hB
  clear hb c0 c1 c2
  go_wp2_with (fail)
  clear d0 d1 d2 f0 f1 f2
  have hL2:p.low.inB (2 ^ 43:Nat) = true:=inB_mono hlow (by decide)
  go_loopg [] 43 (fun g wr=>∃ q:Pt,Hid (Box3 wr w0.heap.size q)/\Hid (Box3 wr (w0.heap.size + 1) Pt.O)/\Hid (Below w0.heap.size w0 wr)/\g <= 43/\Hid (halveF g q = halveF 43 p.low)/\Hid (q.inB (2 ^ g:Nat) = true))
  case atStart=>exact ⟨p.low,b0,b1,hB,Nat.le_refl _,rfl,hL2⟩
  case round =>
   clear b0 b1 hB hL2
   obtain ⟨q,b0,b1,hB,hg,HF,HI⟩:=hrel
   have hG:Hid _:=hg
   clear hg
   obtain ⟨c0,c1,c2,f0,f1,f2⟩:=b0.out
   go_wp2_with (fail)
   refine Calls.mono (HX.out q _) ?_
   rintro e V3 ⟨rfl,hb⟩
   clear c0 c1 c2 f0 f1 f2
   have b0:Hid _:=b0.out.step hb
   have b1:Hid _:=b1.out.step hb
   have hB:Hid _:=b_step hB.out hb
   clear hb
   cases hq:q.inB 1048576 with
   | false =>
    obtain ⟨j,hj,ej,hin2⟩:=halveF_step _ q hq HI.out
    have HJ:Hid _:=And.intro hj (And.intro ej hin2)
    have hq2:q.inB 1152921504606846976 = true:=inB_mono HI.out (by have:=cast_pow _ hG.out;omega)
    have HD2:Hid _:=HD.out q hq2
    clear hj ej hin2 hq2
    obtain ⟨c0,c1,c2,f0,f1,f2⟩:=b0.out
    go_wp2_with (fail)
    refine Calls.mono (HD2.out _) ?_
    clear HD2
    rintro e V4 ⟨rfl,hb⟩
    have b0:Hid (Box3 (set3 V4 w0.heap.size (q.by 2).x (q.by 2).y (q.by 2).z) w0.heap.size (q.by 2)):=(b0.out.step hb).set _ _ _
    have b1:Hid (Box3 (set3 V4 w0.heap.size (q.by 2).x (q.by 2).y (q.by 2).z) (w0.heap.size + 1) Pt.O):=(b1.out.step hb).other (by omega) _ _ _
    have hB:Hid (Below w0.heap.size w0 (set3 V4 w0.heap.size (q.by 2).x (q.by 2).y (q.by 2).z)):=set3_below (b_step hB.out hb) (Nat.le_refl _) _ _ _
    have d0:=c_after hb c0
    have d1:=c_after hb c1
    have d2:=c_after hb c2
    have f0:=f_after hb c0 f0
    have f1:=f_after hb c1 f1
    have f2:=f_after hb c2 f2
    unfold set3 at b0 b1 hB
    clear hb c0 c1 c2
    go_wp2_with (fail)
    go_roundg j
    case measure=>have:=HJ.out.1;omega
    case rel=>exact ⟨q.by 2,b0,b1,hB,by have:=HJ.out.1;have:=hG.out;omega,HJ.out.2.1.symm.trans HF.out,HJ.out.2.2⟩
   | true =>
    have e:r = q.low:=by rw [HR.out,<- HF.out,halveF_id _ _ hq]
    have HL1:Hid _:=HLO.out q (inB_mono hq (by decide))
    rw [<- e] at HL1
    clear e HR HF HI HX HLO HD
    obtain ⟨c0,c1,c2,f0,f1,f2⟩:=b0.out
    go_wp2_with (fail)
    refine Calls.mono (HL1.out _) ?_
    clear HL1 c0 c1 c2 f0 f1 f2
    rintro e V4 ⟨rfl,hb⟩
    obtain ⟨c0,c1,c2,f0,f1,f2⟩:=b1.out.step hb
    have hB:Hid _:=b_step hB.out hb
    go_wp2_with (fail)
    refine bodyPost_ret (v:=.agg #[.int .i64 r.x,.int .i64 r.y,.int .i64 r.z]) (by simp [results,Tryz.results82,go_sem,c0,c1,c2]) rfl ⟨rfl,?_⟩
    exact set3_below hB.out (by omega) _ _ _
end
section
open Go.RowKit Go.Shelf
theorem pt_eq (p q:Pt):p = q ↔ p.x = q.x/\p.y = q.y/\p.z = q.z:=by cases p;cases q;simp
theorem index_any (v:Value) (L:List Pt) (p:Pt) (w:World) (hv:Lies w v L) :
  Calls Tryz.prog 136 #[v,p.v] w fun e W=>∃ k:Int,e = .returned (.int .i64 k)/\(0 <= k ↔ p ∈ L)/\Below w.heap.size w W:=by
 obtain ⟨o,c,rfl,hlc,hcm,hcell⟩:=hv.form
 have HC:Hid _:=hcell
 have bx:Hid (Box3 (w.alloc (.cells #[.int .i64 p.x,.int .i64 p.y,.int .i64 p.z] 23)) w.heap.size p):=Box3.new w p.x p.y p.z _
 have hB:Hid (Below w.heap.size w (w.alloc (.cells #[.int .i64 p.x,.int .i64 p.y,.int .i64 p.z] 23))):=n_after w _
 clear hv hcell
 unfold Pt.v
 go_enter Tryz.func136,Tryz.ntmps136
 go_wp2_with (fail)
 go_loopw [8] (fun i wr=>∃ k:Nat,i = .int .i64 (k:Int)/\k <= L.length/\Hid (∀ j,j < k->pt L j ≠ p)/\Hid (Box3 wr w.heap.size p)/\Hid (Below w.heap.size w wr)) (fun i _=>L.length - (intOf i).toNat)
 case atStart=>exact ⟨0,rfl,Nat.zero_le _,fun j hj=>absurd hj (by omega),bx,hB⟩
 case round =>
  clear bx hB
  obtain ⟨k,rfl,hk,HN,bx,HB⟩:=hrel
  by_cases hlt:k < L.length
  ·obtain ⟨g,off,rfl,x0,x1,x2⟩:=HC.out k hlt
   have x0:=c_after HB.out x0
   have x1:=c_after HB.out x1
   have x2:=c_after HB.out x2
   obtain ⟨c0,c1,c2,_,_,_⟩:=bx.out
   have HEQ:Hid (pt L k = p->p ∈ L):=fun e=>e ▸ pt_mem hlt
   have HNE:Hid (pt L k ≠ p->∀ j,j < k + 1->pt L j ≠ p):=fun e j hj=>by
    by_cases ej:j = k
    ·subst ej;exact e
    ·exact HN.out j (by omega)
   rw [pt_eq] at HEQ
   rw [Ne,pt_eq] at HNE
   generalize (pt L k).x = lx at *
   generalize (pt L k).y = ly at *
   generalize (pt L k).z = lz at *
   by_cases ex:lx = p.x
   ·subst ex
    by_cases ey:ly = p.y
    ·subst ey
     by_cases ez:lz = p.z
     ·subst ez
      go_wp2_with (fail)
      go_region
      go_wp2_with (fail)
      go_ret
      exact ⟨_,rfl,⟨fun _=>HEQ.out (by simp),fun _=>by omega⟩,HB.out.drew⟩
     ·have e1:(p.z == lz) = false:=beq_eq_false_iff_ne.2 fun e=>ez e.symm
      go_wp2_with (fail)
      go_region
      go_wp2_with (fail)
      go_roundw
      case rel=>exact ⟨k + 1,by go_num,by omega,HNE.out (fun h=>ez h.2.2),bx.out.step (Below.refl _ _).drew,HB.out.drew⟩
      case measure=>simp [intOf];omega
    ·have e1:(p.y == ly) = false:=beq_eq_false_iff_ne.2 fun e=>ey e.symm
     go_wp2_with (fail)
     go_region
     go_wp2_with (fail)
     go_roundw
     case rel=>exact ⟨k + 1,by go_num,by omega,HNE.out (fun h=>ey h.2.1),bx.out.step (Below.refl _ _).drew,HB.out.drew⟩
     case measure=>simp [intOf];omega
   ·have e1:(p.x == lx) = false:=beq_eq_false_iff_ne.2 fun e=>ex e.symm
    go_wp2_with (fail)
    go_region
    go_wp2_with (fail)
    go_roundw
    case rel=>exact ⟨k + 1,by go_num,by omega,HNE.out (fun h=>ex h.1),bx.out.step (Below.refl _ _).drew,HB.out.drew⟩
    case measure=>simp [intOf];omega
  ·have e:k = L.length:=by omega
   have HX:Hid (p ∉ L):=fun hp=>by
    obtain ⟨j,hj,ej⟩:=pt_of_mem hp
    exact HN.out j (by omega) ej
   clear e
   go_wp2_with (fail)
   go_ret
   exact ⟨_,rfl,⟨fun h=>absurd h (by decide),fun h=>absurd h HX.out⟩,HB.out⟩
theorem contains_any (v:Value) (L:List Pt) (p:Pt) (w:World) (hv:Lies w v L) :
  Calls Tryz.prog 135 #[v,p.v] w fun e W=>e = .returned (.bool (decide (p ∈ L)))/\Below w.heap.size w W:=by
 have HI:Hid _:=index_any v L p (w.alloc (.cells #[.int .i64 p.x,.int .i64 p.y,.int .i64 p.z] 23)) (hv.below (n_after w _))
 obtain ⟨o,c,rfl,_⟩:=hv.form
 unfold Pt.v at *
 clear hv
 go_enter Tryz.func135,Tryz.ntmps135
 go_wp2_with (fail)
 refine Calls.mono HI.out ?_
 clear HI
 rintro e V ⟨k,rfl,hk,hb⟩
 have hB:=b_step (n_after w _) hb
 clear hb
 have HK:Hid _:=hk
 clear hk
 go_wp2_with (fail)
 go_ret
 exact ⟨congrArg (fun b=>Ending.returned (.bool b)) (by rw [Bool.eq_iff_iff,decide_eq_true_eq,decide_eq_true_eq];exact HK.out),hB⟩
theorem withAxis_any (B:Nat) (u:Value) (A:List Pt) (n:Pt) (w:World) (ho:w.ownsRow B 23 3 u A.length (fl3 A)) (hB:B <= w.heap.size) (hl:A.length <= 100000) :
  Calls Tryz.prog 124 #[u,n.v] w fun e W=>∃ u',e = .returned u'/\W.ownsRow B 23 3 u' (withAxisP A n).length (fl3 (withAxisP A n))/\Grew w W u u':=by
 obtain ⟨i0,hii,hiz,hisz,hib⟩:=info_parts point_info
 have HI:Hid _:=And.intro hii (And.intro hiz (And.intro hisz hib))
 clear hii hiz hisz hib
 have HC:Hid _:=contains_any u A n (w.alloc (.cells #[.int .i64 n.x,.int .i64 n.y,.int .i64 n.z] 23)) ((Lies.of_row ho).below (n_after w _))
 have bx:Hid (Box3 (w.alloc (.cells #[.int .i64 n.x,.int .i64 n.y,.int .i64 n.z] 23)) w.heap.size n):=Box3.new w n.x n.y n.z _
 obtain ⟨o,c,hu,_⟩:=(Lies.of_row ho).form
 have HO:Hid _:=ho
 clear ho
 obtain ⟨R,hR⟩:∃ R,withAxisP A n = R:=⟨_,rfl⟩
 rw [hR]
 have HR:Hid _:=hR
 clear hR
 unfold Pt.v at *
 subst hu
 go_enter Tryz.func124,Tryz.ntmps124
 go_wp2_with (fail)
 refine Calls.mono HC.out ?_
 clear HC
 rintro e V ⟨rfl,hb⟩
 have hBV:Hid _:=b_step (n_after w _) hb
 have HO:Hid _:=own_below HO.out hBV.out
 have bx:Hid _:=bx.out.step hb
 clear hb
 by_cases hm:n ∈ A
 ·have e:A = R:=by rw [<- HR.out];unfold withAxisP;rw [if_pos hm]
  have hd:decide (n ∈ A) = true:=decide_eq_true hm
  rw [hd]
  clear HR
  subst e
  clear hm hd
  go_wp2_with (fail)
  go_ret
  exact ⟨_,rfl,HO.out,Grew.below hBV.out _⟩
 ·have e:R = A ++ [n]:=by rw [<- HR.out];unfold withAxisP;rw [if_neg hm]
  have hd:decide (n ∈ A) = false:=decide_eq_false hm
  rw [hd]
  clear HR
  subst e
  clear hm hd
  obtain ⟨c0,c1,c2,_,_,_⟩:=bx.out
  have hsz:=hBV.out.size
  go_wp2_with (at_builtin;refine wpList_append_own_at _ rfl _ _ 24 rfl B 23 i0 _ 3 24 Tryz.underlying24 HI.out.1 HI.out.2.1 HI.out.2.2.1 HI.out.2.2.2 rfl (by decide) _ _ _ rfl (own_below HO.out (n_after V _)) ⟨V.heap.size,0,none⟩ 1 1 [.int .i64 n.x,.int .i64 n.y,.int .i64 n.z] rfl rfl (news_at (heap_alloc_new V _)) (by intro u hu;simp at hu;rcases hu with rfl | rfl | rfl <;> rfl) (by unfold maxLen;omega) (by omega) (by simp;omega) ?_;intro u9 V2 r8 g8 _ s8)
  go_ret
  refine ⟨_,rfl,by rw [fl3_append,List.length_append];exact r8,(Grew.below (b_step hBV.out (n_after V _)) _).trans ⟨g8,?_⟩⟩
  rcases s8 with e | e
  ·exact Or.inl e
  ·exact Or.inr ⟨_,e,Nat.le_refl _⟩
end
section
open Go.RowKit Go.Shelf
theorem own_set3 {W:World} {base:Nat} {t:TypeId} {sz n:Nat} {u:Value} {xs:List Value} {b:Nat} (h:W.ownsRow base t sz u n xs) (hne:u.ownBlock ≠ some b) (x y z:Int):(set3 W b x y z).ownsRow base t sz u n xs:=
 ownsRow_setCell_other (ownsRow_setCell_other (ownsRow_setCell_other h hne _) hne _) hne _
def At (W:World) (g:Nat) (M:List Pt):Prop:=∀ i,i < M.length->W.cell? ⟨g,i * 3,none⟩ = some (.int .i64 (pt M i).x)/\W.cell? ⟨g,i * 3 + 1,none⟩ = some (.int .i64 (pt M i).y)/\W.cell? ⟨g,i * 3 + 2,none⟩ = some (.int .i64 (pt M i).z)
theorem At.below {w W:World} {g:Nat} {M:List Pt} (h:At w g M) (hb:Below w.heap.size w W):At W g M:=fun i hi=>⟨c_after hb (h i hi).1,c_after hb (h i hi).2.1,c_after hb (h i hi).2.2⟩
theorem At.grown {w W:World} {g:Nat} {M:List Pt} {row:Option Nat} (h:At w g M) (hg:w.grownBy W row) (hne:row ≠ some g):At W g M:=fun i hi =>
 ⟨hg.cell (h i hi).1 (fun e=>hne e.symm),hg.cell (h i hi).2.1 (fun e=>hne e.symm),hg.cell (h i hi).2.2 (fun e=>hne e.symm)⟩
theorem At.set3 {w:World} {g b:Nat} {M:List Pt} (h:At w g M) (hne:g ≠ b) (x y z:Int):At (set3 w b x y z) g M:=by
 intro i hi
 obtain ⟨a,b,c⟩:=h i hi
 unfold Go.Proofs.YtlhhmiicpddjoaaGreat.set3
 exact ⟨by simp [go_sem,a],by simp [go_sem,b],by simp [go_sem,c]⟩
theorem edges_snoc (E M:List Pt) (k:Nat) (hk:k < M.length):withEdgesP E (M.take (k + 1)) = withEdgeP (withEdgesP E (M.take k)) (pt M k):=by
 unfold withEdgesP
 rw [take_pt hk,List.foldl_append];rfl
theorem edges_len (E M:List Pt):(withEdgesP E M).length <= E.length + M.length:=by
 unfold withEdgesP
 induction M generalizing E with
 | nil=>simp
 | cons m r ih =>
  have:=ih (withEdgeP E m)
  have h2:(withEdgeP E m).length <= E.length + 1:=by unfold withEdgeP;split <;> simp
  simp only [List.foldl_cons,List.length_cons]
  omega
structure ER (w wr:World) (B:Nat) (u0 u:Value) (g:Nat) (M E:List Pt):Prop where
 row:wr.ownsRow B 23 3 u E.length (fl3 E)
 more:At wr g M
 off:u.ownBlock ≠ some g
 grew:Grew w wr u0 u
 gl:g < w.heap.size
theorem ER.below {w wr W:World} {B:Nat} {u0 u:Value} {g:Nat} {M E:List Pt} (h:ER w wr B u0 u g M E) (hb:Below wr.heap.size wr W):ER w W B u0 u g M E:=
 ⟨own_below h.row hb,h.more.below hb,h.off,h.grew.trans (Grew.below hb _),h.gl⟩
theorem ER.set {w wr:World} {B:Nat} {u0 u:Value} {g b:Nat} {M E:List Pt} (h:ER w wr B u0 u g M E) (hu:u.ownBlock ≠ some b) (hb:w.heap.size <= b) (x y z:Int):ER w (set3 wr b x y z) B u0 u g M E:=by
 refine ⟨own_set3 h.row hu _ _ _,h.more.set3 (by have:=h.gl;omega) _ _ _,h.off,⟨?_,h.grew.same⟩,h.gl⟩
 have hb3:Below b wr (set3 wr b x y z):=set3_below (Below.refl _ _) (Nat.le_refl _) _ _ _
 refine ⟨hb3.os.trans h.grew.grown.os,hb3.tape.trans h.grew.grown.tape,hb3.output.trans h.grew.grown.output,Nat.le_trans h.grew.grown.size hb3.size,fun k hk hn=>(hb3.block k (by omega)).trans (h.grew.grown.block k hk hn)⟩
theorem ER.app {w wr W:World} {B:Nat} {u0 u u':Value} {g:Nat} {M E E':List Pt} (h:ER w wr B u0 u g M E) (hr:W.ownsRow B 23 3 u' E'.length (fl3 E')) (hg:Grew wr W u u'):ER w W B u0 u' g M E':=by
 refine ⟨hr,h.more.grown hg.grown h.off,?_,h.grew.trans hg,h.gl⟩
 rcases hg.same with e | ⟨k,e,hk⟩
 ·rw [e];exact h.off
 ·rw [e];intro e';cases e';have:=h.grew.grown.size;have:=h.gl;omega
theorem ER.lt {w wr:World} {B:Nat} {u0 u:Value} {g:Nat} {M E:List Pt} (h:ER w wr B u0 u g M E) {b:Nat} (hb:wr.heap.size <= b):u.ownBlock ≠ some b:=fun e=>by have:=(h.row.lt b e).2;omega
theorem withEdges_any (B g:Nat) (u:Value) (E M:List Pt) (w:World) (ho:w.ownsRow B 23 3 u E.length (fl3 E)) (hm:At w g M) (hoff:u.ownBlock ≠ some g) (hgl:g < w.heap.size) (hB:B <= w.heap.size) (hl:E.length <= 100000) (hM:M.length <= 100) :
  Calls Tryz.prog 125 #[u,.slice (some ⟨g,0,none⟩) M.length M.length] w fun e W=>∃ u',e = .returned u'/\W.ownsRow B 23 3 u' (withEdgesP E M).length (fl3 (withEdgesP E M))/\Grew w W u u':=by
 obtain ⟨i0,hii,hiz,hisz,hib⟩:=info_parts point_info
 have HI:Hid _:=And.intro hii (And.intro hiz (And.intro hisz hib))
 clear hii hiz hisz hib
 have HE:Hid (ER w w B u u g M E):=⟨ho,hm,hoff,Grew.refl _ _,hgl⟩
 obtain ⟨o,c,hu,_⟩:=(Lies.of_row ho).form
 clear ho hm hoff
 subst hu
 go_enter Tryz.func125,Tryz.ntmps125
 go_wp2_with (fail)
 go_loopg [0,9] M.length (fun gm u i wr=>∃ (k:Nat) (D:List Pt) (oo:Option Addr) (cc:Nat),i = .int .i64 (k:Int)/\k <= M.length/\gm = M.length - k/\u = .slice oo D.length cc/\D.length <= 100000 + k/\Hid (D = withEdgesP E (M.take k))/\Hid (ER w wr B (.slice o E.length c) (.slice oo D.length cc) g M D))
 case atStart=>exact ⟨0,E,o,c,rfl,Nat.zero_le _,rfl,rfl,by omega,by show _ = _;simp [withEdgesP],HE⟩
 case round =>
  clear HE
  obtain ⟨k,D,oo,cc,rfl,hk,hgm,rfl,hD,HD,HE⟩:=hrel
  have HG:Hid _:=hgm
  clear hgm
  by_cases hlt:k < M.length
  ·obtain ⟨x0,x1,x2⟩:=HE.out.more k hlt
   have hgw:=World.block_lt_of_cell? _ _ x0
   have HS:Hid (withEdgeP D (pt M k) = withEdgesP E (M.take (k + 1))):=by show _ = _;rw [edges_snoc E M k hlt,HD.out]
   clear HD
   generalize pt M k = m at *
   have hws:w.heap.size <= wr.heap.size:=HE.out.grew.grown.size
   have HSH:Hid _:=short_any m (wr.alloc (.cells #[.int .i64 m.x,.int .i64 m.y,.int .i64 m.z] 23))
   have bx:Hid (Box3 (wr.alloc (.cells #[.int .i64 m.x,.int .i64 m.y,.int .i64 m.z] 23)) wr.heap.size m):=Box3.new wr m.x m.y m.z _
   have hsin:=short_in m
   have HWE:Hid (withEdgeP D m = if m.short ∈ D \/ m.short.neg ∈ D then D else D ++ [m.short]):=rfl
   generalize m.short = s at *
   unfold Pt.v at HSH
   go_wp2_with (fail)
   refine Calls.mono HSH.out ?_
   clear HSH x0 x1 x2
   rintro e V ⟨rfl,hb⟩
   have bx:=bx.out.step hb
   obtain ⟨c0,c1,c2,f0,f1,f2⟩:=bx
   have bx:=(Box3.mk c0 c1 c2 f0 f1 f2).set s.x s.y s.z
   have HE1:Hid _:=(HE.out.below (b_step (n_after wr _) hb)).set (HE.out.lt (Nat.le_refl _)) hws s.x s.y s.z
   have hsz:=(b_step (n_after wr _) hb).size
   clear HE hb
   obtain ⟨V2,hV2⟩:∃ V2:World,V2 = set3 V wr.heap.size s.x s.y s.z:=⟨_,rfl⟩
   have hs2:V2.heap.size = V.heap.size:=by rw [hV2];exact set3_size _ _ _ _ _
   rw [<- hV2] at HE1 bx
   unfold set3 at hV2
   go_wp2_with (fail)
   rw [<- hV2]
   clear hV2 c0 c1 c2 f0 f1 f2
   have bx:Hid _:=bx
   refine Calls.mono (contains_any _ D s V2 (Lies.of_row HE1.out.row)) ?_
   rintro e V3 ⟨rfl,hb⟩
   have HE1:Hid _:=HE1.out.below hb
   have bx:Hid _:=bx.out.step hb
   have hsz:wr.heap.size <= V3.heap.size:=by have:=hb.size;omega
   clear hb hs2
   by_cases h1:s ∈ D
   ·have e:D = withEdgesP E (M.take (k + 1)):=by rw [<- HS.out,HWE.out,if_pos (Or.inl h1)]
    have hd:decide (s ∈ D) = true:=decide_eq_true h1
    rw [hd]
    have HE2:Hid _:=e
    clear HS HWE h1 hd e
    go_wp2_with (fail)
    go_roundg (M.length - (k + 1))
    case measure=>have:=HG.out;omega
    case rel=>exact ⟨k + 1,D,oo,cc,by go_num,by omega,rfl,rfl,by omega,HE2,HE1⟩
   ·have hd:decide (s ∈ D) = false:=decide_eq_false h1
    rw [hd]
    obtain ⟨c0,c1,c2,_,_,_⟩:=bx.out
    go_wp2_with (fail)
    refine Calls.mono (back_any s _ (inB_mono hsin (by decide))) ?_
    rintro e V4 ⟨rfl,hb⟩
    have HE1:Hid _:=HE1.out.below hb
    have bx:Hid _:=bx.out.step hb
    have hsz:wr.heap.size <= V4.heap.size:=by have:=hb.size;omega
    clear hb c0 c1 c2
    unfold Pt.v
    go_wp2_with (fail)
    refine Calls.mono (contains_any _ D s.neg V4 (Lies.of_row HE1.out.row)) ?_
    rintro e V5 ⟨rfl,hb⟩
    have HE1:Hid _:=HE1.out.below hb
    have bx:Hid _:=bx.out.step hb
    have hsz:wr.heap.size <= V5.heap.size:=by have:=hb.size;omega
    clear hb
    by_cases h2:s.neg ∈ D
    ·have e:D = withEdgesP E (M.take (k + 1)):=by rw [<- HS.out,HWE.out,if_pos (Or.inr h2)]
     have hd2:decide (s.neg ∈ D) = true:=decide_eq_true h2
     rw [hd2]
     have HE2:Hid _:=e
     clear HS HWE h1 hd hd2 h2 e
     go_wp2_with (fail)
     go_roundg (M.length - (k + 1))
     case measure=>have:=HG.out;omega
     case rel=>exact ⟨k + 1,D,oo,cc,by go_num,by omega,rfl,rfl,by omega,HE2,HE1⟩
    ·have e:D ++ [s] = withEdgesP E (M.take (k + 1)):=by rw [<- HS.out,HWE.out,if_neg (fun h=>h.elim h1 h2)]
     have hd2:decide (s.neg ∈ D) = false:=decide_eq_false h2
     rw [hd2]
     have HE2:Hid _:=e
     clear HS HWE h1 hd hd2 h2 e
     obtain ⟨c0,c1,c2,_,_,_⟩:=bx.out
     go_wp2_with (at_builtin;refine wpList_append_own_at _ rfl _ _ 24 rfl B 23 i0 _ 3 24 Tryz.underlying24 HI.out.1 HI.out.2.1 HI.out.2.2.1 HI.out.2.2.2 rfl (by decide) _ _ _ rfl (own_below HE1.out.row (n_after V5 _)) ⟨V5.heap.size,0,none⟩ 1 1 [.int .i64 s.x,.int .i64 s.y,.int .i64 s.z] rfl rfl (news_at (heap_alloc_new V5 _)) (by intro u hu;simp at hu;rcases hu with rfl | rfl | rfl <;> rfl) (by unfold maxLen;omega) (by omega) (by simp;omega) ?_;intro u9 V6 r8 g8 _ s8;obtain ⟨gg8,kk8,rfl⟩:=ownsRow_succ r8;have HE3:Hid _:=(HE1.out.below (n_after V5 _)).app (E':=D ++ [s]) (by rw [fl3_append,List.length_append];exact r8) ⟨g8,(by rcases s8 with e | e;exact Or.inl e;exact Or.inr ⟨_,e,Nat.le_refl _⟩)⟩;clear r8 g8 s8)
     go_roundg (M.length - (k + 1))
     case measure=>have:=HG.out;omega
     case rel=>exact ⟨k + 1,D ++ [s],some ⟨gg8,0,none⟩,kk8,by go_num,by omega,rfl,by rw [List.length_append];rfl,by rw [List.length_append];simp;omega,HE2,by rw [List.length_append];exact HE3⟩
  ·have e:D = withEdgesP E M:=by rw [HD.out,List.take_of_length_le (by omega)]
   have HE2:Hid _:=e
   clear e HD
   go_wp2_with (fail)
   go_ret
   exact ⟨_,rfl,by rw [<- HE2.out];exact HE.out.row,HE.out.grew⟩
end
end Go.Proofs.YtlhhmiicpddjoaaGreat
