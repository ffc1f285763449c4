/- The document's own layer 12: what moves; which bodies are gone. -/
import Derived.Test.YtpjaacpcdomfiaaGreatSBTells0
import Derived.Test.YtpjaacpcdomfiaaGreatSBTells16
import Derived.Test.YtpjaacpcdomfiaaGreatSBTells13
import Derived.Test.YtpjaacpcdomfiaaGreatSBTells12
set_option maxHeartbeats 4000000
set_option maxRecDepth 100000
set_option linter.unusedVariables false
namespace Go.Proofs.YtpjaacpcdomfiaaGreat
section
open Go.RowKit Go.Shelf Fx
theorem half_is (n:Int):(n.tmod 2 < 0->n.tdiv 2 - 1 = n / 2)/\(¬ n.tmod 2 < 0->n.tdiv 2 = n / 2):=by
 have h1:=Int.tmod_add_mul_tdiv n 2
 have h2:=Int.tmod_lt_of_pos n (show (0:Int) < 2 by decide)
 have h3:=Int.lt_tmod_of_pos n (show (0:Int) < 2 by decide)
 omega
theorem rhalf_any (n:Int) (w:World) (hn:-9223372036854775808 <= n/\n <= 9223372036854775807) :
  Calls Tryz.prog 74 #[.int .i64 n] w fun e w'=>e = .returned (.int .i64 (n / 2))/\w' = w:=by
 obtain ⟨h1,h2⟩:=half_is n
 have h4:=Int.tmod_add_mul_tdiv n 2
 have h5:=Int.tmod_lt_of_pos n (show (0:Int) < 2 by decide)
 have h6:=Int.lt_tmod_of_pos n (show (0:Int) < 2 by decide)
 have e1:wrap64 (n.tdiv 2) = n.tdiv 2:=w64 (by omega) (by omega)
 have e2:n.tmod 2 < 0->wrap64 (n.tdiv 2 - 1) = n / 2:=fun h=>by rw [w64 (by omega) (by omega)];exact h1 h
 have E2:Hid _:=e2
 have H2:Hid _:=h2
 clear h1 h2 e2 h4
 by_cases h:n.tmod 2 < 0
 ·have e3:=E2.out h
  go_enter Tryz.func74,Tryz.ntmps74
  go_wp2
  go_ret
  exact ⟨by rw [<- e3];rfl,rfl⟩
 ·have e3:=H2.out h
  go_enter Tryz.func74,Tryz.ntmps74
  go_wp2
  go_ret
  exact ⟨by rw [<- e3];rfl,rfl⟩
theorem rhalf_c (fb fo:Nat) (f:Bool) (n:Int) (hn:-9223372036854775808 <= n/\n <= 9223372036854775807) (W:World) (hc:W.cell? ⟨fb,fo,none⟩ = some (.bool f)) (hf:W.frozen? ⟨fb,fo,none⟩ = false) :
  Calls Tryz.prog 74 #[.int .i64 n] W fun e W'=>e = .returned (.int .i64 (n / 2))/\Hid (After ⟨fb,fo,none⟩ (f || false) W W'):=by
 refine Calls.mono (rhalf_any n W hn) ?_
 rintro e w ⟨rfl,rfl⟩
 exact ⟨rfl,(Leaves.refl _ _).done (by rw [Bool.or_false];exact hc) hf⟩
theorem rspeed_is (fb fo:Nat) (f:Bool) (b:Bd) (R:List Value) (hk:b.k = 2) (W:World) (hc:W.cell? ⟨fb,fo,none⟩ = some (.bool f)) (hf:W.frozen? ⟨fb,fo,none⟩ = false) :
  Calls Tryz.prog 15 #[.pointer (some ⟨fb,fo,none⟩),.agg (b.L R).toArray] W fun e W'=>e = .returned (spdV b).val/\Hid (After ⟨fb,fo,none⟩ (f || spdB b) W W'):=by
 have:=rspeed_any fb fo f b R W hc hf
 unfold if2 if2B at this
 rw [if_pos hk,if_pos hk] at this
 exact this
theorem rspin_is (fb fo:Nat) (f:Bool) (b:Bd) (R:List Value) (hR:Rest R) (hk:b.k = 2) (W:World) (hc:W.cell? ⟨fb,fo,none⟩ = some (.bool f)) (hf:W.frozen? ⟨fb,fo,none⟩ = false) :
  Calls Tryz.prog 17 #[.pointer (some ⟨fb,fo,none⟩),.agg (b.L R).toArray] W fun e W'=>e = .returned (yldV b b.l).val/\Hid (After ⟨fb,fo,none⟩ (f || yldB b b.l) W W'):=by
 have:=rspin_any fb fo f b R hR W hc hf
 unfold if2 if2B at this
 rw [if_pos hk,if_pos hk] at this
 exact this
theorem rgo_any (fb fo:Nat) (f:Bool) (b:Bd) (R0:List Value) (n:Int) (hn:-9223372036854775808 <= n/\n <= 9223372036854775807) (hR0:Rest R0) (W:World) (hc:W.cell? ⟨fb,fo,none⟩ = some (.bool f)) (hf:W.frozen? ⟨fb,fo,none⟩ = false) :
  Calls Tryz.prog 27 #[.pointer (some ⟨fb,fo,none⟩),.agg (b.L R0).toArray,.int .i64 n] W fun e W'=>e = .returned (.agg ((ifB b (goD b n)).L R0).toArray)/\Hid (After ⟨fb,fo,none⟩ (f || if2B b.k (goB b n)) W W'):=by
 have hbW:fb < W.heap.size:=World.block_lt_of_cell? _ _ hc
 have hR:Hid (Rest _):=hR0
 obtain ⟨V,hV⟩:∃ V,V = ((W.alloc (.cells (b.L R0).toArray 35)).alloc (.cells #[.int .i64 0,.int .i64 0,.int .i64 0,.int .i64 0,.int .i64 0,.int .i64 0,.int .i64 0,.int .i64 0,.int .i64 0,.int .i64 0,.int .i64 0,.int .i64 0,.int .i64 0,.int .i64 0,.int .i64 0,.int .i64 0,.int .i64 0,.int .i64 0,.int .i64 0,.int .i64 0,.int .i64 0,.int .i64 0,.int .i64 0,.slice none 0 0,.int .i64 0,.int .i64 0,.int .i64 0,.bool false,.int .i64 0,.bool false,.bool false] 35)):=⟨_,rfl⟩
 have hb0:=n_after W (.cells (b.L R0).toArray 35)
 have hb1:=n_after (W.alloc (.cells (b.L R0).toArray 35)) (.cells #[.int .i64 0,.int .i64 0,.int .i64 0,.int .i64 0,.int .i64 0,.int .i64 0,.int .i64 0,.int .i64 0,.int .i64 0,.int .i64 0,.int .i64 0,.int .i64 0,.int .i64 0,.int .i64 0,.int .i64 0,.int .i64 0,.int .i64 0,.int .i64 0,.int .i64 0,.int .i64 0,.int .i64 0,.int .i64 0,.int .i64 0,.slice none 0 0,.int .i64 0,.int .i64 0,.int .i64 0,.bool false,.int .i64 0,.bool false,.bool false] 35)
 have Cb:CW V (W.heap.size) (b.L R0):=by
  have h9:=(CW.new W (b.L R0) 35).step hb1
  rw [hV];exact h9
 have Cr:CW V (W.heap.size + 1) [.int .i64 0,.int .i64 0,.int .i64 0,.int .i64 0,.int .i64 0,.int .i64 0,.int .i64 0,.int .i64 0,.int .i64 0,.int .i64 0,.int .i64 0,.int .i64 0,.int .i64 0,.int .i64 0,.int .i64 0,.int .i64 0,.int .i64 0,.int .i64 0,.int .i64 0,.int .i64 0,.int .i64 0,.int .i64 0,.int .i64 0,.slice none 0 0,.int .i64 0,.int .i64 0,.int .i64 0,.bool false,.int .i64 0,.bool false,.bool false]:=by
  have h9:=CW.new (W.alloc (.cells (b.L R0).toArray 35)) [.int .i64 0,.int .i64 0,.int .i64 0,.int .i64 0,.int .i64 0,.int .i64 0,.int .i64 0,.int .i64 0,.int .i64 0,.int .i64 0,.int .i64 0,.int .i64 0,.int .i64 0,.int .i64 0,.int .i64 0,.int .i64 0,.int .i64 0,.int .i64 0,.int .i64 0,.int .i64 0,.int .i64 0,.int .i64 0,.int .i64 0,.slice none 0 0,.int .i64 0,.int .i64 0,.int .i64 0,.bool false,.int .i64 0,.bool false,.bool false] 35
  simp only [World.size_alloc] at h9
  rw [hV];exact h9
 have hB:Below W.heap.size W V:=by rw [hV];exact (b_step hb0 hb1)
 have hcV:=c_after hB hc
 have hfV:=f_after hB hc hf
 have HLV:Hid (Leaves ⟨fb,fo,none⟩ W V):=(Leaves.refl _ _).step hB
 clear hb0 hb1
 clear hc hf hB hR0
 obtain ⟨v9,hv9⟩:∃ v,v = ifB b (goD b n):=⟨_,rfl⟩
 obtain ⟨g9,hg9⟩:∃ g,g = (f || if2B b.k (goB b n)):=⟨_,rfl⟩
 rw [<- hv9,<- hg9]
 have HE:Hid _:=And.intro hv9 hg9
 clear hv9 hg9
 go_enter Tryz.func27,Tryz.ntmps27
 go_upto_region 1 with fail
 rw [<- hV]
 clear hV
 obtain ⟨pr,hpr⟩:∃ p,p = W.heap.size + 1:=⟨_,rfl⟩
 obtain ⟨pb,hpb⟩:∃ p,p = W.heap.size:=⟨_,rfl⟩
 rw [<- hpr] at Cr
 rw [<- hpb] at Cb
 rw [<- hpr,<- hpb]
 have nb:pb ≠ fb:=by omega
 have nr:pr ≠ fb:=by omega
 have nr':fb ≠ pr:=by omega
 have br:pr ≠ pb:=by omega
 have hWr:W.heap.size <= pr:=by omega
 have hWb:W.heap.size <= pb:=by omega
 clear hpb hpr
 have hZl:([.int .i64 0,.int .i64 0,.int .i64 0,.int .i64 0,.int .i64 0,.int .i64 0,.int .i64 0,.int .i64 0,.int .i64 0,.int .i64 0,.int .i64 0,.int .i64 0,.int .i64 0,.int .i64 0,.int .i64 0,.int .i64 0,.int .i64 0,.int .i64 0,.int .i64 0,.int .i64 0,.int .i64 0,.int .i64 0,.int .i64 0,.slice none 0 0,.int .i64 0,.int .i64 0,.int .i64 0,.bool false,.int .i64 0,.bool false,.bool false]:List Value).length = 31:=rfl
 generalize ([.int .i64 0,.int .i64 0,.int .i64 0,.int .i64 0,.int .i64 0,.int .i64 0,.int .i64 0,.int .i64 0,.int .i64 0,.int .i64 0,.int .i64 0,.int .i64 0,.int .i64 0,.int .i64 0,.int .i64 0,.int .i64 0,.int .i64 0,.int .i64 0,.int .i64 0,.int .i64 0,.int .i64 0,.int .i64 0,.int .i64 0,.slice none 0 0,.int .i64 0,.int .i64 0,.int .i64 0,.bool false,.int .i64 0,.bool false,.bool false]:List Value) = zl at *
 have k0:=(Cb 0 _ rfl).1
 have HS:Hid (Clo _ _ _ _ _ _):=Clo.start hcV hfV Cb
 by_cases hk:b.k = 2
 ·rw [hk] at k0
  have HV9:Hid (v9 = goD b n):=by have h9:=HE.out.1;rw [ifB,if_pos hk] at h9;exact h9
  have HG9:Hid (g9 = (f || goB b n)):=by have h9:=HE.out.2;rw [if2B,if_pos hk] at h9;exact h9
  clear HE
  have hz0:Hid _:=body_size hR.out b
  have hsz:fb < V.heap.size/\pb < V.heap.size:=⟨World.block_lt_of_cell? _ _ hcV,Cb.lt⟩
  obtain ⟨hszf,hszb⟩:=hsz
  have hsz:=Nat.le_refl V.heap.size
  have HRG0:Hid (World.rangeAt V pb 0 (b.L R0)):=Cb.range
  have HC1:Hid _:=rspeed_is fb fo f b R0 hk V hcV hfV
  clear hcV hfV Cb
  go_wp2_with (refine wpList_load_mid rfl 35 _ rfl pb 0 rfl _ _ HRG0.out Tryz.underlying35 rfl hz0.out ?_)
  refine Calls.mono HC1.out ?_
  rintro e W1 ⟨rfl,A⟩
  have HS:Hid (Clo _ _ _ _ _ _):=HS.out.same A.out nb
  have hsz:=Nat.le_trans hsz A.out.size
  clear HC1 A k0 HRG0
  go_upto_region 4 with fail
  obtain ⟨V4,hV4⟩:∃ X,X = W1.alloc (.cells #[.int .i64 (spdV b).x,.int .i64 (spdV b).y,.int .i64 (spdV b).z] 23):=⟨_,rfl⟩
  have hb:=n_after W1 (.cells #[.int .i64 (spdV b).x,.int .i64 (spdV b).y,.int .i64 (spdV b).z] 23)
  have Cv:=CW.new W1 [.int .i64 (spdV b).x,.int .i64 (spdV b).y,.int .i64 (spdV b).z] 23
  rw [<- hV4] at hb Cv ⊢
  obtain ⟨pv,hpv⟩:∃ p,p = W1.heap.size:=⟨_,rfl⟩
  rw [<- hpv] at Cv ⊢
  have nv:pv ≠ fb:=by omega
  have bv:pv ≠ pb:=by omega
  have HS:Hid (Clo _ _ _ _ _ _):=HS.out.step hb
  have Cb:=HS.out.cw
  have hsz:=Nat.le_trans hsz hb.size
  have hcV:=HS.out.cell
  have hfV:=HS.out.frozen
  clear hV4 hpv hb
  have HRG0:Hid (World.rangeAt V4 pb 0 (b.L R0)):=Cb.range
  have HC1:Hid _:=rspin_is fb fo (f || spdB b) b R0 hR.out hk V4 hcV hfV
  clear hcV hfV Cb
  go_wp2_with (refine wpList_load_mid rfl 35 _ rfl pb 0 rfl _ _ HRG0.out Tryz.underlying35 rfl hz0.out ?_)
  refine Calls.mono HC1.out ?_
  rintro e W2 ⟨rfl,A⟩
  have HS:Hid (Clo _ _ _ _ _ _):=HS.out.same A.out nb
  have hsz:=Nat.le_trans hsz A.out.size
  have Cv:=Cv.after A.out nv
  clear HC1 A HRG0
  go_upto_region 5 with fail
  obtain ⟨V5,hV5⟩:∃ X,X = W2.alloc (.cells #[.int .i64 (yldV b b.l).x,.int .i64 (yldV b b.l).y,.int .i64 (yldV b b.l).z] 23):=⟨_,rfl⟩
  have hb:=n_after W2 (.cells #[.int .i64 (yldV b b.l).x,.int .i64 (yldV b b.l).y,.int .i64 (yldV b b.l).z] 23)
  have Ch:=CW.new W2 [.int .i64 (yldV b b.l).x,.int .i64 (yldV b b.l).y,.int .i64 (yldV b b.l).z] 23
  rw [<- hV5] at hb Ch ⊢
  obtain ⟨ph,hph⟩:∃ p,p = W2.heap.size:=⟨_,rfl⟩
  rw [<- hph] at Ch ⊢
  have nh:ph ≠ fb:=by omega
  have bh:ph ≠ pb:=by omega
  have HS:Hid (Clo _ _ _ _ _ _):=HS.out.step hb
  have Cb:=HS.out.cw
  have Cv:=Cv.step hb
  have hsz:=Nat.le_trans hsz hb.size
  have hcV:=HS.out.cell
  have hfV:=HS.out.frozen
  clear hV5 hph hb
  refine RV.rs [.some (.pointer (some ⟨fb,fo,none⟩)),.some (.pointer (some ⟨pb,1,none⟩)),.some (.pointer (some ⟨pb,1,none⟩)),.some (.agg #[.int .i64 b.s.x,.int .i64 b.s.y,.int .i64 b.s.z]),.some (.pointer (some ⟨fb,fo,none⟩)),.some (.agg #[.int .i64 ((spdV b).x),.int .i64 ((spdV b).y),.int .i64 ((spdV b).z)]),.some (.int .i64 n),.some (.agg #[.int .i64 ((wayV b n).x),.int .i64 ((wayV b n).y),.int .i64 ((wayV b n).z)]),.some (.agg #[.int .i64 ((addV b.s (wayV b n)).x),.int .i64 ((addV b.s (wayV b n)).y),.int .i64 ((addV b.s (wayV b n)).z)]),.some (.pointer (some ⟨pb,1,none⟩)),.some (.pointer (some ⟨pb,1,none⟩)),none] [20,21,22,23,24,25,26,27,28,29,30,0] [(0,.pointer (some ⟨fb,fo,none⟩)),(2,.int .i64 n),(4,.pointer (some ⟨pb,0,none⟩)),(7,.pointer (some ⟨pv,0,none⟩))] (fun γ L w9=>FGS V5 ⟨fb,fo,none⟩ (f || spdB b || yldB b b.l) [(7,sclB (spdV b) n),(8,addB b.s (wayV b n))] 11 (fun w=>(((w.setCell ⟨pb,1,none⟩ (.int .i64 ((addV b.s (wayV b n)).x))).setCell ⟨pb,2,none⟩ (.int .i64 ((addV b.s (wayV b n)).y))).setCell ⟨pb,3,none⟩ (.int .i64 ((addV b.s (wayV b n)).z)))) L w9) ⟨rfl,rfl,rfl,rfl,trivial⟩ ?_ ?_ ?_
  ·exact FGS.start hcV hfV
  ·intro D WA Z hD hWA hZ T
   simp only [RV.Outs,RV.Slots,Nat.reduceAdd] at T
   iterate 7 first
    | (refine RV.cc _ (RV.pu T (fun γ v L w hl h=>h.stay (by decide) rfl) (fun γ L a w hH hl h9 k9=>⟨_,?_,rfl⟩)) ?_;· simp [execOp,go_sem,h9])
    | (refine RV.cc _ (RV.pu T (fun γ v L w hl h=>h.stay (by decide) rfl) (fun γ L a w hH hl h9 k9=>⟨_,?_,rfl⟩)) ?_;· simp [Region.binds] at k9;simp [execOp,go_sem,h9,k9])
    | (refine RV.cc _ (RV.pu T (fun γ v L w hl h=>h.stay (by decide) rfl) (fun γ L a w hH hl h9 k9=>⟨_,?_,rfl⟩)) ?_;· have hG:=hH.glob.early (RV.ny hH (RV.wt (j:=11) hWA (by kernel_rfl)) hl);have q0:=hG.at (Cv 0 _ rfl).1 nv;have q1:=hG.at (Cv 1 _ rfl).1 nv;have q2:=hG.at (Cv 2 _ rfl).1 nv;simp [execOp,go_sem,h9,q0,q1,q2])
    | (refine RV.cc _ (RV.pu T (fun γ v L w hl h=>h.stay (by decide) rfl) (fun γ L a w hH hl h9 k9=>⟨_,?_,rfl⟩)) ?_;· have hG:=hH.glob.early (RV.ny hH (RV.wt (j:=11) hWA (by kernel_rfl)) hl);have q0:=hG.at (Cb 1 _ rfl).1 nb;have q1:=hG.at (Cb 2 _ rfl).1 nb;have q2:=hG.at (Cb 3 _ rfl).1 nb;simp [Region.binds] at k9;simp [execOp,go_sem,h9,k9,q0,q1,q2])
   refine RV.cc _ (RV.dc (fun γ L a w hH hl hA=>by have h9:=T γ L a w hH;have k9:=hA;simp [Region.binds] at k9;have hG:=hH.glob.early (RV.ny hH (RV.wt (j:=11) (i:=7) hWA (by kernel_rfl)) hl);exact ⟨40,#[.pointer (some ⟨fb,fo,none⟩),.agg #[.int .i64 ((spdV b).x),.int .i64 ((spdV b).y),.int .i64 ((spdV b).z)],.int .i64 n],by simp [go_sem,h9,k9],Calls.mono (rscl_c fb fo _ (spdV b) n w hG.cell hG.frozen) (by rintro e w2 ⟨rfl,ha⟩;exact ⟨_,rfl,rfl,fun j v _ h=>h.keep _,FGS.come hG (by decide) (RV.ny hH (RV.wt (j:=11) (i:=7) hWA (by kernel_rfl)) hl) hl rfl ha.out⟩)⟩)) ?_
   refine RV.cc _ (RV.dc (fun γ L a w hH hl hA=>by have h9:=T γ L a w hH;have k9:=hA;simp [Region.binds] at k9;have hG:=hH.glob.early (RV.ny hH (RV.wt (j:=11) (i:=8) hWA (by kernel_rfl)) hl);exact ⟨64,#[.pointer (some ⟨fb,fo,none⟩),.agg #[.int .i64 b.s.x,.int .i64 b.s.y,.int .i64 b.s.z],.agg #[.int .i64 ((wayV b n).x),.int .i64 ((wayV b n).y),.int .i64 ((wayV b n).z)]],by simp [go_sem,h9,k9],Calls.mono (radd_c fb fo _ b.s (wayV b n) w hG.cell hG.frozen) (by rintro e w2 ⟨rfl,ha⟩;exact ⟨_,rfl,rfl,fun j v _ h=>h.keep _,FGS.come hG (by decide) (RV.ny hH (RV.wt (j:=11) (i:=8) hWA (by kernel_rfl)) hl) hl rfl ha.out⟩)⟩)) ?_
   iterate 2 first
    | (refine RV.cc _ (RV.pu T (fun γ v L w hl h=>h.stay (by decide) rfl) (fun γ L a w hH hl h9 k9=>⟨_,?_,rfl⟩)) ?_;· simp [execOp,go_sem,h9])
    | (refine RV.cc _ (RV.pu T (fun γ v L w hl h=>h.stay (by decide) rfl) (fun γ L a w hH hl h9 k9=>⟨_,?_,rfl⟩)) ?_;· simp [Region.binds] at k9;simp [execOp,go_sem,h9,k9])
   refine RV.cc _ (RV.does_store (fun γ L a w hH hl hA=>by have h9:=T γ L a w hH;have k9:=hA;simp [Region.binds] at k9;have hG:=hH.glob.early hl;have z0:=hG.at (Cb 1 _ rfl).1 nb;have zf0:=hG.open (Cb 1 _ rfl).1 (Cb 1 _ rfl).2 nb;have z1:=hG.at (Cb 2 _ rfl).1 nb;have zf1:=hG.open (Cb 2 _ rfl).1 (Cb 2 _ rfl).2 nb;have z2:=hG.at (Cb 3 _ rfl).1 nb;have zf2:=hG.open (Cb 3 _ rfl).1 (Cb 3 _ rfl).2 nb;exact ⟨(((w.setCell ⟨pb,1,none⟩ (.int .i64 ((addV b.s (wayV b n)).x))).setCell ⟨pb,2,none⟩ (.int .i64 ((addV b.s (wayV b n)).y))).setCell ⟨pb,3,none⟩ (.int .i64 ((addV b.s (wayV b n)).z))),by simp [execOp,go_sem,z0,zf0,z1,zf1,z2,zf2,h9,k9],trivial,fun j v _ h=>h.keep _,FGS.store (S:=fun w=>(((w.setCell ⟨pb,1,none⟩ (.int .i64 ((addV b.s (wayV b n)).x))).setCell ⟨pb,2,none⟩ (.int .i64 ((addV b.s (wayV b n)).y))).setCell ⟨pb,3,none⟩ (.int .i64 ((addV b.s (wayV b n)).z)))) hG rfl⟩)) ?_
   exact RV.AllDo.nil
  ·intro γ w5 L9 hL hI9 hG9
   obtain ⟨w8,hF8,rfl⟩:=hG9.late (hL 11 (by decide))
   have hFL:orL (f || spdB b || yldB b b.l) [(7,sclB (spdV b) n),(8,addB b.s (wayV b n))] L9 = ((f || spdB b || yldB b b.l) || (sclB (spdV b) n || addB b.s (wayV b n))):=by unfold orL;simp only [List.any_cons,List.any_nil,hL 7 (by decide),hL 8 (by decide),Bool.true_and,Bool.or_false,Bool.or_assoc]
   have HA8:Hid (After _ _ _ _):=hF8.leaves.done hF8.cell hF8.frozen
   rw [hFL] at HA8
   clear hF8 hFL
   clear hL hI9 hG9
   simp only [RV.putL,Act.put,List.setIfInBounds_toArray,List.set_cons_zero,List.set_cons_succ]
   have HS:Hid (Clo _ _ _ _ _ _):=HS.out.same HA8.out nb
   have HS:Hid (Clo _ _ _ _ _ _):=HS.out.set3 nb 1 (.int .i64 (addV b.s (wayV b n)).x) (.int .i64 (addV b.s (wayV b n)).y) (.int .i64 (addV b.s (wayV b n)).z) (long31 hR.out (by decide))
   simp only [Nat.reduceAdd] at HS
   have Ch:=Ch.after HA8.out nh
   have Ch:=((Ch.other (a:=⟨pb,1,none⟩) bh.symm (.int .i64 (addV b.s (wayV b n)).x)).other (a:=⟨pb,2,none⟩) bh.symm (.int .i64 (addV b.s (wayV b n)).y)).other (a:=⟨pb,3,none⟩) bh.symm (.int .i64 (addV b.s (wayV b n)).z)
   clear HA8 Cv Cb hcV hfV
   obtain ⟨V6,hV6⟩:∃ X,X = (((w8.setCell ⟨pb,1,none⟩ (.int .i64 (addV b.s (wayV b n)).x)).setCell ⟨pb,2,none⟩ (.int .i64 (addV b.s (wayV b n)).y)).setCell ⟨pb,3,none⟩ (.int .i64 (addV b.s (wayV b n)).z)):=⟨_,rfl⟩
   rw [<- hV6] at HS Ch ⊢
   obtain ⟨b1,hb1⟩:∃ x,x = b.ws (addV b.s (wayV b n)) b.q:=⟨_,rfl⟩
   have HS:Hid (Clo ⟨fb,fo,none⟩ ((f || spdB b || yldB b b.l) || (sclB (spdV b) n || addB b.s (wayV b n))) pb (b1.L R0) V V6):=by rw [hb1];exact HS.out
   have Cb:=HS.out.cw
   have hcV:=HS.out.cell
   have hfV:=HS.out.frozen
   clear hV6
   go_upto_region 6 with fail
   refine RV.rs [.some (.pointer (some ⟨fb,fo,none⟩)),.some (.pointer (some ⟨pb,1,none⟩)),.some (.pointer (some ⟨pb,4,none⟩)),.some (.agg #[.int .i64 b1.q.w,.int .i64 b1.q.x,.int .i64 b1.q.y,.int .i64 b1.q.z]),.some (.pointer (some ⟨fb,fo,none⟩)),.some (.agg #[.int .i64 ((yldV b b.l).x),.int .i64 ((yldV b b.l).y),.int .i64 ((yldV b b.l).z)]),.some (.int .i64 n),.some (.int .i64 (n / 2)),.some (.agg #[.int .i64 ((hlfV b n).x),.int .i64 ((hlfV b n).y),.int .i64 ((hlfV b n).z)]),.some (.agg #[.int .i64 ((spnQ b1.q (hlfV b n)).w),.int .i64 ((spnQ b1.q (hlfV b n)).x),.int .i64 ((spnQ b1.q (hlfV b n)).y),.int .i64 ((spnQ b1.q (hlfV b n)).z)]),.some (.pointer (some ⟨pb,1,none⟩)),.some (.pointer (some ⟨pb,4,none⟩)),none] [31,32,33,34,35,36,37,38,39,40,41,42,0] [(0,.pointer (some ⟨fb,fo,none⟩)),(2,.int .i64 n),(4,.pointer (some ⟨pb,0,none⟩)),(8,.pointer (some ⟨ph,0,none⟩))] (fun γ L w9=>FGS V6 ⟨fb,fo,none⟩ ((f || spdB b || yldB b b.l) || (sclB (spdV b) n || addB b.s (wayV b n))) [(7,false),(8,sclB (yldV b b.l) (n / 2)),(9,spnB b1.q (hlfV b n))] 12 (fun w=>((((w.setCell ⟨pb,4,none⟩ (.int .i64 ((spnQ b1.q (hlfV b n)).w))).setCell ⟨pb,5,none⟩ (.int .i64 ((spnQ b1.q (hlfV b n)).x))).setCell ⟨pb,6,none⟩ (.int .i64 ((spnQ b1.q (hlfV b n)).y))).setCell ⟨pb,7,none⟩ (.int .i64 ((spnQ b1.q (hlfV b n)).z)))) L w9) ⟨rfl,rfl,rfl,rfl,trivial⟩ ?_ ?_ ?_
   ·exact FGS.start hcV hfV
   ·intro D WA Z hD hWA hZ T
    simp only [RV.Outs,RV.Slots,Nat.reduceAdd] at T
    iterate 7 first
     | (refine RV.cc _ (RV.pu T (fun γ v L w hl h=>h.stay (by decide) rfl) (fun γ L a w hH hl h9 k9=>⟨_,?_,rfl⟩)) ?_;· simp [execOp,go_sem,h9])
     | (refine RV.cc _ (RV.pu T (fun γ v L w hl h=>h.stay (by decide) rfl) (fun γ L a w hH hl h9 k9=>⟨_,?_,rfl⟩)) ?_;· simp [Region.binds] at k9;simp [execOp,go_sem,h9,k9])
     | (refine RV.cc _ (RV.pu T (fun γ v L w hl h=>h.stay (by decide) rfl) (fun γ L a w hH hl h9 k9=>⟨_,?_,rfl⟩)) ?_;· have hG:=hH.glob.early (RV.ny hH (RV.wt (j:=12) hWA (by kernel_rfl)) hl);have q0:=hG.at (Ch 0 _ rfl).1 nh;have q1:=hG.at (Ch 1 _ rfl).1 nh;have q2:=hG.at (Ch 2 _ rfl).1 nh;simp [execOp,go_sem,h9,q0,q1,q2])
     | (refine RV.cc _ (RV.pu T (fun γ v L w hl h=>h.stay (by decide) rfl) (fun γ L a w hH hl h9 k9=>⟨_,?_,rfl⟩)) ?_;· have hG:=hH.glob.early (RV.ny hH (RV.wt (j:=12) hWA (by kernel_rfl)) hl);have q0:=hG.at (Cb 4 _ rfl).1 nb;have q1:=hG.at (Cb 5 _ rfl).1 nb;have q2:=hG.at (Cb 6 _ rfl).1 nb;have q3:=hG.at (Cb 7 _ rfl).1 nb;simp [Region.binds] at k9;simp [execOp,go_sem,h9,k9,q0,q1,q2,q3])
    refine RV.cc _ (RV.dc (fun γ L a w hH hl hA=>by have h9:=T γ L a w hH;have k9:=hA;simp [Region.binds] at k9;have hG:=hH.glob.early (RV.ny hH (RV.wt (j:=12) (i:=7) hWA (by kernel_rfl)) hl);exact ⟨74,#[.int .i64 n],by simp [go_sem,h9,k9],Calls.mono (rhalf_c fb fo _ n hn w hG.cell hG.frozen) (by rintro e w2 ⟨rfl,ha⟩;exact ⟨_,rfl,rfl,fun j v _ h=>h.keep _,FGS.come hG (by decide) (RV.ny hH (RV.wt (j:=12) (i:=7) hWA (by kernel_rfl)) hl) hl rfl ha.out⟩)⟩)) ?_
    refine RV.cc _ (RV.dc (fun γ L a w hH hl hA=>by have h9:=T γ L a w hH;have k9:=hA;simp [Region.binds] at k9;have hG:=hH.glob.early (RV.ny hH (RV.wt (j:=12) (i:=8) hWA (by kernel_rfl)) hl);exact ⟨40,#[.pointer (some ⟨fb,fo,none⟩),.agg #[.int .i64 ((yldV b b.l).x),.int .i64 ((yldV b b.l).y),.int .i64 ((yldV b b.l).z)],.int .i64 (n / 2)],by simp [go_sem,h9,k9],Calls.mono (rscl_c fb fo _ (yldV b b.l) (n / 2) w hG.cell hG.frozen) (by rintro e w2 ⟨rfl,ha⟩;exact ⟨_,rfl,rfl,fun j v _ h=>h.keep _,FGS.come hG (by decide) (RV.ny hH (RV.wt (j:=12) (i:=8) hWA (by kernel_rfl)) hl) hl rfl ha.out⟩)⟩)) ?_
    refine RV.cc _ (RV.dc (fun γ L a w hH hl hA=>by have h9:=T γ L a w hH;have k9:=hA;simp [Region.binds] at k9;have hG:=hH.glob.early (RV.ny hH (RV.wt (j:=12) (i:=9) hWA (by kernel_rfl)) hl);exact ⟨73,#[.pointer (some ⟨fb,fo,none⟩),.agg #[.int .i64 b1.q.w,.int .i64 b1.q.x,.int .i64 b1.q.y,.int .i64 b1.q.z],.agg #[.int .i64 ((hlfV b n).x),.int .i64 ((hlfV b n).y),.int .i64 ((hlfV b n).z)]],by simp [go_sem,h9,k9],Calls.mono (rspn_c fb fo _ b1.q (hlfV b n) w hG.cell hG.frozen) (by rintro e w2 ⟨rfl,ha⟩;exact ⟨_,rfl,rfl,fun j v _ h=>h.keep _,FGS.come hG (by decide) (RV.ny hH (RV.wt (j:=12) (i:=9) hWA (by kernel_rfl)) hl) hl rfl ha.out⟩)⟩)) ?_
    iterate 2 first
     | (refine RV.cc _ (RV.pu T (fun γ v L w hl h=>h.stay (by decide) rfl) (fun γ L a w hH hl h9 k9=>⟨_,?_,rfl⟩)) ?_;· simp [execOp,go_sem,h9])
     | (refine RV.cc _ (RV.pu T (fun γ v L w hl h=>h.stay (by decide) rfl) (fun γ L a w hH hl h9 k9=>⟨_,?_,rfl⟩)) ?_;· simp [Region.binds] at k9;simp [execOp,go_sem,h9,k9])
    refine RV.cc _ (RV.does_store (fun γ L a w hH hl hA=>by have h9:=T γ L a w hH;have k9:=hA;simp [Region.binds] at k9;have hG:=hH.glob.early hl;have z0:=hG.at (Cb 4 _ rfl).1 nb;have zf0:=hG.open (Cb 4 _ rfl).1 (Cb 4 _ rfl).2 nb;have z1:=hG.at (Cb 5 _ rfl).1 nb;have zf1:=hG.open (Cb 5 _ rfl).1 (Cb 5 _ rfl).2 nb;have z2:=hG.at (Cb 6 _ rfl).1 nb;have zf2:=hG.open (Cb 6 _ rfl).1 (Cb 6 _ rfl).2 nb;have z3:=hG.at (Cb 7 _ rfl).1 nb;have zf3:=hG.open (Cb 7 _ rfl).1 (Cb 7 _ rfl).2 nb;exact ⟨((((w.setCell ⟨pb,4,none⟩ (.int .i64 ((spnQ b1.q (hlfV b n)).w))).setCell ⟨pb,5,none⟩ (.int .i64 ((spnQ b1.q (hlfV b n)).x))).setCell ⟨pb,6,none⟩ (.int .i64 ((spnQ b1.q (hlfV b n)).y))).setCell ⟨pb,7,none⟩ (.int .i64 ((spnQ b1.q (hlfV b n)).z))),by simp [execOp,go_sem,z0,zf0,z1,zf1,z2,zf2,z3,zf3,h9,k9],trivial,fun j v _ h=>h.keep _,FGS.store (S:=fun w=>((((w.setCell ⟨pb,4,none⟩ (.int .i64 ((spnQ b1.q (hlfV b n)).w))).setCell ⟨pb,5,none⟩ (.int .i64 ((spnQ b1.q (hlfV b n)).x))).setCell ⟨pb,6,none⟩ (.int .i64 ((spnQ b1.q (hlfV b n)).y))).setCell ⟨pb,7,none⟩ (.int .i64 ((spnQ b1.q (hlfV b n)).z)))) hG rfl⟩)) ?_
    exact RV.AllDo.nil
   ·intro γ w5 L9 hL hI9 hG9
    obtain ⟨w8,hF8,rfl⟩:=hG9.late (hL 12 (by decide))
    have hFL:orL ((f || spdB b || yldB b b.l) || (sclB (spdV b) n || addB b.s (wayV b n))) [(7,false),(8,sclB (yldV b b.l) (n / 2)),(9,spnB b1.q (hlfV b n))] L9 = (((f || spdB b || yldB b b.l) || (sclB (spdV b) n || addB b.s (wayV b n))) || (false || sclB (yldV b b.l) (n / 2) || spnB b1.q (hlfV b n))):=by unfold orL;simp only [List.any_cons,List.any_nil,hL 7 (by decide),hL 8 (by decide),hL 9 (by decide),Bool.true_and,Bool.or_false,Bool.or_assoc]
    have HA8:Hid (After _ _ _ _):=hF8.leaves.done hF8.cell hF8.frozen
    rw [hFL] at HA8
    clear hF8 hFL
    clear hL hI9 hG9
    simp only [RV.putL,Act.put,List.setIfInBounds_toArray,List.set_cons_zero,List.set_cons_succ]
    have HS:Hid (Clo _ _ _ _ _ _):=HS.out.same HA8.out nb
    have HS:Hid (Clo _ _ _ _ _ _):=(HS.out.set nb 4 (.int .i64 (spnQ b1.q (hlfV b n)).w) (long31 hR.out (by decide))).set3 nb 5 (.int .i64 (spnQ b1.q (hlfV b n)).x) (.int .i64 (spnQ b1.q (hlfV b n)).y) (.int .i64 (spnQ b1.q (hlfV b n)).z) (by simp [hR.out.all])
    simp only [Nat.reduceAdd] at HS
    clear HA8
    obtain ⟨X9,hX9⟩:∃ X,X = ((((w8.setCell ⟨pb,4,none⟩ (.int .i64 (spnQ b1.q (hlfV b n)).w)).setCell ⟨pb,5,none⟩ (.int .i64 (spnQ b1.q (hlfV b n)).x)).setCell ⟨pb,6,none⟩ (.int .i64 (spnQ b1.q (hlfV b n)).y)).setCell ⟨pb,7,none⟩ (.int .i64 (spnQ b1.q (hlfV b n)).z)):=⟨_,rfl⟩
    rw [<- hX9] at HS ⊢
    have HS:Hid (Clo ⟨fb,fo,none⟩ (f || goB b n) pb ((goD b n).L R0) V X9):=by
     have e9:(((f || spdB b || yldB b b.l) || (sclB (spdV b) n || addB b.s (wayV b n))) || (false || sclB (yldV b b.l) (n / 2) || spnB b1.q (hlfV b n))) = (f || goB b n):=by
      subst hb1;unfold goB goB1;rw [Bool.false_or];show _ = (f || (_ || (_ || spnB b.q (hlfV b n))));ac_rfl
     rw [e9] at HS
     subst hb1
     exact HS.out
    clear hb1 Cb Ch hcV hfV
    clear hX9
    have Cb9:=HS.out.cw
    have Cr9:=Cr.two HS.out.two nr br
    have HL9:Hid (Leaves ⟨fb,fo,none⟩ W X9):=HLV.out.two HS.out.two hbW hWb
    have hc9:=HS.out.cell
    have hf9:=HS.out.frozen
    clear HS Cr HLV
    have hz3:Hid _:=body_size hR.out ((goD b n))
    have hy3:Hid _:=body_size2 hR.out ((goD b n))
    have h13:Hid _:=hR.out.each ((goD b n))
    have HRG:Hid (World.rangeAt X9 pb 0 (((goD b n)).L R0)):=Cb9.range
    have HTH:Hid (World.there X9 pr 0 (((goD b n)).L R0).toArray.size):=Cr9.there31 hZl hR.out
    have HX3:Hid (World.rangeAt _ _ _ _):=(Cr9.sets (us:=((goD b n)).L R0) (by rw [hR.out.all,hZl])).range
    have HL4:Hid (Leaves ⟨fb,fo,none⟩ W (X9.setCells pr 0 (((goD b n)).L R0))):=HL9.out.sets hWr _
    have hc4:Hid _:=(out_sets (w:=X9) (vs:=((goD b n)).L R0) (o:=fo) nr').trans hc9
    have hf4:Hid _:=(World.frozen?_setCells pr (((goD b n)).L R0) 0 X9 ⟨fb,fo,none⟩).trans hf9
    generalize hcs:((goD b n)).L R0 = cs at *
    have HCS:Hid _:=hcs
    clear hcs Cb9 Cr9 HL9 hc9 hf9
    go_wp2_with (first | refine wpList_load_mid rfl 35 _ rfl pb 0 rfl _ _ HRG.out Tryz.underlying35 rfl hz3.out ?_ | refine wpList_store_mid rfl 35 _ _ rfl pr 0 _ rfl rfl HTH.out hy3.out h13.out ?_)
    refine bodyPost_ret (results_cell 6 35 Tryz.results27 ⟨pr,0,none⟩ rfl (run_loadVar_mid _ pr 0 35 cs _ HX3.out Tryz.underlying35 rfl hz3.out)) rfl ?_
    refine ⟨by rw [HV9.out,HCS.out],?_⟩
    rw [HG9.out]
    exact HL4.out.done hc4.out hf4.out
 ·have hk2:(b.k == 2) = false:=by simpa using hk
  have HV9:Hid (v9 = b):=by have h9:=HE.out.1;rw [ifB,if_neg hk] at h9;exact h9
  have HG9:Hid (g9 = f):=by have h9:=HE.out.2;rw [if2B,if_neg hk,Bool.or_false] at h9;exact h9
  clear HE HS
  have Cb9:=Cb
  have Cr9:=Cr
  have HL9:=HLV
  have hc9:=hcV
  have hf9:=hfV
  clear Cb Cr HLV hcV hfV
  have hz3:Hid _:=body_size hR.out (b)
  have hy3:Hid _:=body_size2 hR.out (b)
  have h13:Hid _:=hR.out.each (b)
  have HRG:Hid (World.rangeAt V pb 0 ((b).L R0)):=Cb9.range
  have HTH:Hid (World.there V pr 0 ((b).L R0).toArray.size):=Cr9.there31 hZl hR.out
  have HX3:Hid (World.rangeAt _ _ _ _):=(Cr9.sets (us:=(b).L R0) (by rw [hR.out.all,hZl])).range
  have HL4:Hid (Leaves ⟨fb,fo,none⟩ W (V.setCells pr 0 ((b).L R0))):=HL9.out.sets hWr _
  have hc4:Hid _:=(out_sets (w:=V) (vs:=(b).L R0) (o:=fo) nr').trans hc9
  have hf4:Hid _:=(World.frozen?_setCells pr ((b).L R0) 0 V ⟨fb,fo,none⟩).trans hf9
  generalize hcs:(b).L R0 = cs at *
  have HCS:Hid _:=hcs
  clear hcs Cb9 Cr9 HL9 hc9 hf9
  go_wp2_with (first | refine wpList_load_mid rfl 35 _ rfl pb 0 rfl _ _ HRG.out Tryz.underlying35 rfl hz3.out ?_ | refine wpList_store_mid rfl 35 _ _ rfl pr 0 _ rfl rfl HTH.out hy3.out h13.out ?_)
  refine bodyPost_ret (results_cell 6 35 Tryz.results27 ⟨pr,0,none⟩ rfl (run_loadVar_mid _ pr 0 35 cs _ HX3.out Tryz.underlying35 rfl hz3.out)) rfl ?_
  refine ⟨by rw [HV9.out,HCS.out],?_⟩
  rw [HG9.out]
  exact HL4.out.done hc4.out hf4.out
end
section
open Go.RowKit Go.Shelf Fx
def hlf (a:V3):V3:=⟨a.x.tdiv 2,a.y.tdiv 2,a.z.tdiv 2⟩
def hvd (slow bad:V3->Bool):Nat->V3->V3 × Bool × Bool
 | 0,p=>(p,false,bad p)
 | n + 1,p=>if slow p then (p,false,bad p) else ((hvd slow bad n (hlf p)).1,true,bad p || (hvd slow bad n (hlf p)).2.2)
def Sml (n:Nat) (a:V3):Prop:=a.x.natAbs < 2 ^ n/\a.y.natAbs < 2 ^ n/\a.z.natAbs < 2 ^ n
theorem sml_hlf {n:Nat} {a:V3} (h:Sml (n + 1) a):Sml n (hlf a):=by
 obtain ⟨h1,h2,h3⟩:=h
 have e:2 ^ (n + 1) = 2 * 2 ^ n:=by rw [Nat.pow_succ,Nat.mul_comm]
 rw [e] at h1 h2 h3
 have e2:∀ x:Int,(x.tdiv 2).natAbs = x.natAbs / 2:=fun x=>by rw [Int.natAbs_tdiv];rfl
 refine ⟨?_,?_,?_⟩ <;> simp only [hlf,e2] <;> omega
theorem sml_zero {a:V3} (h:Sml 0 a):a = ⟨0,0,0⟩:=by
 obtain ⟨x,y,z⟩:=a
 obtain ⟨h1,h2,h3⟩:=h
 simp only [Nat.pow_zero] at h1 h2 h3
 congr 1 <;> omega
theorem sml_in {n:Nat} {a:V3} (h:Sml n a) (hn:n <= 64):Sml 64 a:=by
 have:2 ^ n <= 2 ^ 64:=Nat.pow_le_pow_right (by decide) hn
 obtain ⟨h1,h2,h3⟩:=h
 exact ⟨by omega,by omega,by omega⟩
theorem hlf_wrap {a:V3} (h:Sml 64 a):wrap64 (a.x.tdiv 2) = (hlf a).x/\wrap64 (a.y.tdiv 2) = (hlf a).y/\wrap64 (a.z.tdiv 2) = (hlf a).z:=by
 obtain ⟨h1,h2,h3⟩:=h
 have e2:∀ x:Int,(x.tdiv 2).natAbs = x.natAbs / 2:=fun x=>by rw [Int.natAbs_tdiv];rfl
 have k1:=e2 a.x
 have k2:=e2 a.y
 have k3:=e2 a.z
 simp only [Nat.reducePow] at h1 h2 h3
 exact ⟨w64 (by omega) (by omega),w64 (by omega) (by omega),w64 (by omega) (by omega)⟩
structure Hv (slow bad:V3->Bool) (R9:V3 × Bool × Bool) (f:Bool) (n:Nat) (p:V3) (did g:Bool):Prop where
 fin:(hvd slow bad n p).1 = R9.1
 did:(did || (hvd slow bad n p).2.1) = R9.2.1
 bad:(g || (hvd slow bad n p).2.2) = (f || R9.2.2)
 sml:Sml n p
theorem Hv.stop {slow bad:V3->Bool} {R9:V3 × Bool × Bool} {f:Bool} {n:Nat} {p:V3} {did g:Bool} (h:Hv slow bad R9 f n p did g) (hs:slow p = true):p = R9.1/\did = R9.2.1/\(g || bad p) = (f || R9.2.2):=by
 obtain ⟨h1,h2,h3,_⟩:=h
 have e:hvd slow bad n p = (p,false,bad p):=by
  cases n with
  | zero=>rfl
  | succ n=>rw [hvd,if_pos hs]
 rw [e] at h1 h2 h3
 exact ⟨h1,by simpa using h2,h3⟩
theorem Hv.next {slow bad:V3->Bool} {R9:V3 × Bool × Bool} {f:Bool} {n:Nat} {p:V3} {did g:Bool} (h:Hv slow bad R9 f n p did g) (h0:slow ⟨0,0,0⟩ = true) (hs:slow p = false):∃ m,n = m + 1/\Hv slow bad R9 f m (hlf p) true (g || bad p):=by
 cases n with
 | zero =>
  have:=sml_zero h.sml
  rw [this,h0] at hs
  cases hs
 | succ m =>
  obtain ⟨h1,h2,h3,h4⟩:=h
  rw [hvd,hs] at h1 h2 h3
  simp only [Bool.false_eq_true,if_false] at h1 h2 h3
  exact ⟨m,rfl,h1,by simpa using h2,by rw [Bool.or_assoc];exact h3,sml_hlf h4⟩
theorem halve_any (gf:Nat) (caps:Array Value) (eg:∀ args w,(callFunc gf args).run Tryz.prog w = .ok (.enter gf args) w) (ob pb o:Nat) (D:V3->Bd) (R:List Value) (slow bad:V3->Bool) (f:Bool) (p:V3) (V:World)
  (hc:V.cell? ⟨ob,0,none⟩ = some (.bool f)) (hf:V.frozen? ⟨ob,0,none⟩ = false) (Cb:CW V pb ((D p).L R)) (nb:pb ≠ ob) (hR:Rest R) (ho:o + 2 < 31)
  (hD0:∀ q,((D q).L R)[o]? = some (.int .i64 q.x)) (hD1:∀ q,((D q).L R)[o + 1]? = some (.int .i64 q.y)) (hD2:∀ q,((D q).L R)[o + 2]? = some (.int .i64 q.z))
  (hDs:∀ q q',((((D q).L R).set o (.int .i64 q'.x)).set (o + 1) (.int .i64 q'.y)).set (o + 2) (.int .i64 q'.z) = (D q').L R)
  (hcl:∀ (q:V3) (g:Bool) (X:World),X.cell? ⟨ob,0,none⟩ = some (.bool g)->X.frozen? ⟨ob,0,none⟩ = false->CW X pb ((D q).L R)->Calls Tryz.prog gf caps X fun e X'=>e = .returned (.bool (slow q))/\Hid (After ⟨ob,0,none⟩ (g || bad q) X X'))
  (hs0:slow ⟨0,0,0⟩ = true) (hp:Sml 64 p) :
  Calls Tryz.prog 76 #[.pointer (some ⟨pb,o,none⟩),.func (.func gf) #[] caps] V fun e W'=>e = .returned (.bool (hvd slow bad 64 p).2.1)/\Hid (Clo ⟨ob,0,none⟩ (f || (hvd slow bad 64 p).2.2) pb ((D (hvd slow bad 64 p).1).L R) V W'):=by
 have HV:Hid _:=(⟨rfl,rfl,rfl,hp⟩:Hv slow bad (hvd slow bad 64 p) f 64 p false f)
 have HCL:Hid _:=hcl
 have HS:Hid (Clo _ _ _ _ _ _):=Clo.start hc hf Cb
 have HDS:Hid _:=hDs
 have HS0:Hid _:=hs0
 have HD0:Hid _:=hD0
 have HD1:Hid _:=hD1
 have HD2:Hid _:=hD2
 generalize hvd slow bad 64 p = R9 at *
 clear hcl hc hf Cb hDs hs0 hD0 hD1 hD2
 go_enter Tryz.func76,Tryz.ntmps76
 go_wp2_with (fail)
 go_loopg [5] 64 (fun gm s5 wr=>∃ (q:V3) (did g:Bool),s5 = .bool did/\gm <= 64/\Hid (Hv slow bad R9 f gm q did g)/\Hid (Clo ⟨ob,0,none⟩ g pb ((D q).L R) V wr))
 case atStart=>exact ⟨p,false,f,rfl,Nat.le_refl _,HV,HS⟩
 case round =>
  obtain ⟨q,did,g,rfl,hgm,HI,HK⟩:=hrel
  clear HV HS
  go_wp2_with (fail)
  refine Calls.mono (HCL.out q g wr HK.out.cell HK.out.frozen HK.out.cw) ?_
  rintro e X1 ⟨rfl,A⟩
  have HK:Hid (Clo _ _ _ _ _ _):=HK.out.same A.out nb
  clear A
  cases hsl:slow q with
  | true =>
   obtain ⟨e1,e2,e3⟩:=HI.out.stop hsl
   have HE:Hid _:=And.intro e1 (And.intro e2 e3)
   clear e1 e2 e3 hsl HI
   go_wp2_with (fail)
   go_ret
   refine ⟨by rw [HE.out.2.1];rfl,?_⟩
   rw [<- HE.out.2.2,<- HE.out.1]
   exact HK
  | false =>
   obtain ⟨m,rfl,HN⟩:=HI.out.next HS0.out hsl
   have hq:=HI.out.sml
   have HN:Hid (Hv _ _ _ _ _ _ _ _):=HN
   clear hsl HI
   obtain ⟨c0,f0⟩:=HK.out.cw o _ (HD0.out q)
   obtain ⟨c1,f1⟩:=HK.out.cw (o + 1) _ (HD1.out q)
   obtain ⟨c2,f2⟩:=HK.out.cw (o + 2) _ (HD2.out q)
   go_wp2_with (fail)
   go_region
   go_wp2_with (fail)
   go_roundg m
   case measure=>omega
   case rel =>
    have h9:=HK.out.set3 nb o (.int .i64 (hlf q).x) (.int .i64 (hlf q).y) (.int .i64 (hlf q).z) (long31 hR ho)
    rw [HDS.out] at h9
    obtain ⟨w0,w1,w2⟩:=hlf_wrap (sml_in hq hgm)
    refine ⟨hlf q,true,g || bad q,rfl,by omega,HN,?_⟩
    rw [w0,w1,w2]
    exact h9.step (Below.refl _ _).drew
def slwP (b:Bd) (p:V3):Bool:=decide (lenN (spdV (b.wp p)) <= 274877906944)
def badP (b:Bd) (p:V3):Bool:=spdB (b.wp p) || lenB (spdV (b.wp p))
def slwL (b:Bd) (l:V3):Bool:=decide (lenN (yldV (b.wl l) l) <= 68719476736)
def badL (b:Bd) (l:V3):Bool:=yldB (b.wl l) l || lenB (yldV (b.wl l) l)
theorem slowP_any (ob pb:Nat) (b:Bd) (R:List Value) (hR:Rest R) (hk:b.k = 2) (q:V3) (g:Bool) (X:World) (hc:X.cell? ⟨ob,0,none⟩ = some (.bool g)) (hf:X.frozen? ⟨ob,0,none⟩ = false) (Cb:CW X pb ((b.wp q).L R)) :
  Calls Tryz.prog 77 #[.pointer (some ⟨ob,0,none⟩),.pointer (some ⟨pb,0,none⟩)] X fun e X'=>e = .returned (.bool (slwP b q))/\Hid (After ⟨ob,0,none⟩ (g || badP b q) X X'):=by
 have hz:Hid _:=body_size hR (b.wp q)
 have HRG:Hid (World.rangeAt X pb 0 _):=Cb.range
 have HC:Hid _:=speed_is ob 0 g (b.wp q) R hR hk X hc hf
 have HN:Hid _:=fun w=>clen_c ob 0 (g || spdB (b.wp q)) (spdV (b.wp q)) w
 clear Cb hc hf
 unfold slwP badP
 go_enter Tryz.func77,Tryz.ntmps77
 go_wp2_with (refine wpList_load_mid rfl 35 _ rfl pb 0 rfl _ _ HRG.out Tryz.underlying35 rfl hz.out ?_)
 refine Calls.mono HC.out ?_
 rintro e X1 ⟨rfl,A⟩
 have HA:Hid (After _ _ _ _):=A.out
 clear A HC HRG
 go_wp2_with (fail)
 refine Calls.mono (HN.out X1 HA.out.cell HA.out.frozen) ?_
 rintro e X2 ⟨rfl,A⟩
 have HA:Hid (After _ _ _ _):=HA.out.trans A.out
 rw [Bool.or_assoc] at HA
 clear A HN
 go_wp2_with (fail)
 go_ret
 exact ⟨rfl,HA⟩
theorem slowL_any (ob pb:Nat) (b:Bd) (R:List Value) (hR:Rest R) (hk:b.k = 2) (q:V3) (g:Bool) (X:World) (hc:X.cell? ⟨ob,0,none⟩ = some (.bool g)) (hf:X.frozen? ⟨ob,0,none⟩ = false) (Cb:CW X pb ((b.wl q).L R)) :
  Calls Tryz.prog 79 #[.pointer (some ⟨ob,0,none⟩),.pointer (some ⟨pb,0,none⟩)] X fun e X'=>e = .returned (.bool (slwL b q))/\Hid (After ⟨ob,0,none⟩ (g || badL b q) X X'):=by
 have hz:Hid _:=body_size hR (b.wl q)
 have HRG:Hid (World.rangeAt X pb 0 _):=Cb.range
 have HC:Hid _:=spin_is ob 0 g (b.wl q) R hR hk X hc hf
 have HN:Hid _:=fun w=>clen_c ob 0 (g || yldB (b.wl q) q) (yldV (b.wl q) q) w
 clear Cb hc hf
 unfold slwL badL
 go_enter Tryz.func79,Tryz.ntmps79
 go_wp2_with (refine wpList_load_mid rfl 35 _ rfl pb 0 rfl _ _ HRG.out Tryz.underlying35 rfl hz.out ?_)
 refine Calls.mono HC.out ?_
 rintro e X1 ⟨rfl,A⟩
 have HA:Hid (After _ _ _ _):=A.out
 clear A HC HRG
 go_wp2_with (fail)
 refine Calls.mono (HN.out X1 HA.out.cell HA.out.frozen) ?_
 rintro e X2 ⟨rfl,A⟩
 have HA:Hid (After _ _ _ _):=HA.out.trans A.out
 rw [Bool.or_assoc] at HA
 clear A HN
 go_wp2_with (fail)
 go_ret
 exact ⟨rfl,HA⟩
end
section
open Go.RowKit Go.Shelf Fx
theorem told_zero:told 0 = some 0:=by unfold told;rw [if_neg (by decide)]
theorem dv1_zero (n:Int):dv1 0 n = 0:=by
 unfold dv1 ratio
 split
 ·rfl
 ·split
  ·rfl
  ·have:fl (0 * 4294967296) n = 0:=by unfold fl;simp
   rw [this,told_zero];rfl
theorem divV_zero (a:V3):divV ⟨0,0,0⟩ a = ⟨0,0,0⟩:=by unfold divV;simp only [dv1_zero]
theorem dot_zero (a b c:Int):(dot [a,b,c] [0,0,0]).getD 0 = 0:=by
 unfold dot
 split
 ·rfl
 ·split
  ·rfl
  ·split
   ·rfl
   ·have:prods [a,b,c] [0,0,0] / 4294967296 = 0:=by simp [prods]
    rw [this,told_zero];rfl
theorem trn_zero (m:Mt):trnV m ⟨0,0,0⟩ = ⟨0,0,0⟩:=by
 unfold trnV t3
 simp only [dot_zero]
 cases b3 (dot [m.a.x,m.a.y,m.a.z] [0,0,0]) (dot [m.b.x,m.b.y,m.b.z] [0,0,0]) (dot [m.c.x,m.c.y,m.c.z] [0,0,0]) <;> rfl
theorem len_zero:lenN ⟨0,0,0⟩ = 0:=by
 unfold lenN norm
 rw [if_neg (by simp),if_neg (by simp [great])]
 have:isq (prods [0,0,0] [0,0,0]).toNat = 0:=by simp [prods,isq]
 rw [this]
 rfl
theorem slowP_zero (b:Bd):slwP b ⟨0,0,0⟩ = true:=by
 unfold slwP spdV
 have:divV (b.wp ⟨0,0,0⟩).p ⟨(b.wp ⟨0,0,0⟩).m,(b.wp ⟨0,0,0⟩).m,(b.wp ⟨0,0,0⟩).m⟩ = ⟨0,0,0⟩:=divV_zero _
 rw [this,len_zero];rfl
theorem slowL_zero (b:Bd):slwL b ⟨0,0,0⟩ = true:=by
 unfold slwL yldV yldM
 rw [trn_zero,divV_zero,trn_zero,len_zero];rfl
def capP (b:Bd):V3 × Bool × Bool:=hvd (slwP b) (badP b) 64 b.p
def capL (b:Bd):V3 × Bool × Bool:=hvd (slwL (b.wp (capP b).1)) (badL (b.wp (capP b).1)) 64 b.l
def capX (b:Bd):Bool:=(capP b).2.2 || (capL b).2.2
def capD (b:Bd):Bd:=if b.k = 2/\capX b = false then (b.wp (capP b).1).wl (capL b).1 else b
def capC (b:Bd):Bool:=if b.k = 2/\capX b = false then (capP b).2.1 || (capL b).2.1 else false
theorem Two2.keep {p:Addr} {k:Nat} {V W:World} {B:Nat} (t:Two2 p k V W) (h1:B <= p.block) (h2:B <= k) (h3:B <= V.heap.size):Below B V W:=t.below B V (Below.refl _ _) h1 h2 h3
structure CapE (p:Addr) (g:Bool) (pc pk:Nat) (cs:List Value) (ct:Bool) (W V X:World):Prop where
 leaves:Leaves p W X
 cell:X.cell? p = some (.bool g)
 frozen:X.frozen? p = false
 cw:CW X pc cs
 ck:CW X pk [.bool ct]
 heap:∀ j,j < V.heap.size->j ≠ p.block->j ≠ pc->j ≠ pk->X.heap[j]? = V.heap[j]?
theorem CapE.flag {fb fo pc pk:Nat} {g ct:Bool} {cs:List Value} {W V X:World} (h:CapE ⟨fb,fo,none⟩ g pc pk cs ct W V X) (nc:pc ≠ fb) (nk:pk ≠ fb):CapE ⟨fb,fo,none⟩ true pc pk cs ct W V (X.setCell ⟨fb,fo,none⟩ (.bool true)):=
 ⟨h.leaves.own _,by simp [go_sem,h.cell],by simp [go_sem,h.frozen],h.cw.other (a:=⟨fb,fo,none⟩) (Ne.symm nc) _,h.ck.other (a:=⟨fb,fo,none⟩) (Ne.symm nk) _,fun j h1 h2 h3 h4=>(Below.heap_setCell _ _ _ _ h2).trans (h.heap j h1 h2 h3 h4)⟩
theorem CapE.put {fb fo pc pk:Nat} {g ct:Bool} {cs:List Value} {W V X:World} (h:CapE ⟨fb,fo,none⟩ g pc pk cs ct W V X) (hW:W.heap.size <= pc) (nc:pc ≠ fb) (ck:pk ≠ pc) (o:Nat) (v:Value) (ho:o < cs.length):CapE ⟨fb,fo,none⟩ g pc pk (cs.set o v) ct W V (X.setCell ⟨pc,o,none⟩ v):=
 ⟨h.leaves.set (a:=⟨pc,o,none⟩) hW _,(World.cell?_setCell_other _ _ _ _ (fun e=>nc (Addr.mk.inj e).1)).trans h.cell,by simp [go_sem,h.frozen],h.cw.set o v ho,h.ck.other (a:=⟨pc,o,none⟩) (Ne.symm ck) _,fun j h1 h2 h3 h4=>(Below.heap_setCell _ _ _ _ h3).trans (h.heap j h1 h2 h3 h4)⟩
theorem CapE.drew {p:Addr} {pc pk:Nat} {g ct:Bool} {cs:List Value} {W V X:World} (h:CapE p g pc pk cs ct W V X):CapE p g pc pk cs ct W V X.drew:=⟨h.leaves.drew,h.cell,h.frozen,h.cw,h.ck,h.heap⟩
theorem exec_store_mid {P:Program} {a:Act} {o:Oper} {w:World} (ty:TypeId) (x y:Operand) (ho:o.op = .store ty x y) (b off:Nat) (cells:Array Value) (hx:a.eval x = .pointer (some ⟨b,off,none⟩)) (hy:a.eval y = .agg cells)
  (ht:w.there b off cells.size) (hi:(P.info? ty).map (·.size) = some cells.size) (h1:cells.all (·.oneCell') = true):(execOp a.eval o).run P w = .ok .skip (w.setCells b off cells.toList):=by
 unfold execOp
 simp only [ho,hx,hy,Instr.storeAt,Instr.sureAddr,Sem.run_bind,Sem.run_pure,Result.andThen_ok,run_storeVar_mid w b off ty cells ht hi h1]
structure CapG (W:World) (p:Addr) (g:Bool) (pr pk:Nat) (cs:List Value) (ct:Bool) (u:Value) (Ls:List Pt) (w:World):Prop where
 leaves:Leaves p W w
 cell:w.cell? p = some (.bool g)
 frozen:w.frozen? p = false
 cw:CW w pr cs
 ck:CW w pk [.bool ct]
 row:w.ownsRow W.heap.size 30 3 u Ls.length (fl3 Ls)
theorem CapG.sets {W:World} {fb fo:Nat} {g:Bool} {pr pk:Nat} {cs:List Value} {ct:Bool} {u:Value} {Ls:List Pt} {w:World} (h:CapG W ⟨fb,fo,none⟩ g pr pk cs ct u Ls w) (hW:W.heap.size <= pr) (nr:fb ≠ pr) (rk:pk ≠ pr) (nu:u.ownBlock ≠ some pr):CapG W ⟨fb,fo,none⟩ g pr pk cs ct u Ls (w.setCells pr 0 cs):=
 ⟨h.leaves.sets hW _,(out_sets nr).trans h.cell,(World.frozen?_setCells _ _ _ _ _).trans h.frozen,h.cw.sets rfl,h.ck.apart rk,own_sets h.row nu _ _⟩
theorem CapG.put {W:World} {fb fo:Nat} {g:Bool} {pr pk:Nat} {cs:List Value} {ct:Bool} {u:Value} {Ls:List Pt} {w:World} (h:CapG W ⟨fb,fo,none⟩ g pr pk cs ct u Ls w) (hW:W.heap.size <= pk) (nk:fb ≠ pk) (rk:pk ≠ pr) (nu:u.ownBlock ≠ some pk):CapG W ⟨fb,fo,none⟩ g pr pk cs ct u Ls (w.setCell ⟨pk,0,none⟩ (.bool ct)):=
 ⟨h.leaves.set (a:=⟨pk,0,none⟩) hW _,(World.cell?_setCell_other _ _ _ _ (fun e=>nk (Addr.mk.inj e).1.symm)).trans h.cell,by simp [go_sem,h.frozen],h.cw.other (a:=⟨pk,0,none⟩) rk _,h.ck.set 0 _ (by simp),ownsRow_setCell_other (a:=⟨pk,0,none⟩) h.row nu _⟩
theorem CapG.drew {W:World} {p:Addr} {g:Bool} {pr pk:Nat} {cs:List Value} {ct:Bool} {u:Value} {Ls:List Pt} {w:World} (h:CapG W p g pr pk cs ct u Ls w):CapG W p g pr pk cs ct u Ls w.drew:=⟨h.leaves.drew,h.cell,h.frozen,h.cw,h.ck,h.row⟩
theorem bd_p (b:Bd) (R:List Value) (q:V3):((((b.L R).set 8 (.int .i64 q.x)).set 9 (.int .i64 q.y)).set 10 (.int .i64 q.z)) = (b.wp q).L R:=rfl
theorem cap1_any (fb fo pc pw pb pk:Nat) (f:Bool) (b:Bd) (R R1:List Value) (W:World) (hR:Rest R) (hk:b.k = 2) (hp:Sml 64 b.p) (hl:Sml 64 b.l) (V:World) (hbW:fb < W.heap.size) (hWc:W.heap.size <= pc) (hWk:W.heap.size <= pk) (hWV:Leaves ⟨fb,fo,none⟩ W V)
  (hc:V.cell? ⟨fb,fo,none⟩ = some (.bool f)) (hf:V.frozen? ⟨fb,fo,none⟩ = false) (Cc:CW V pc (b.L R)) (Cw:CW V pw [.pointer (some ⟨fb,fo,none⟩)]) (Cb:CW V pb (b.L R1)) (Ck:CW V pk [.bool false]) (nc:pc ≠ fb) (nw:pw ≠ fb) (nb:pb ≠ fb) (nk:pk ≠ fb) (cw:pw ≠ pc) (cb:pb ≠ pc) (ck:pk ≠ pc) :
  Calls Tryz.prog 75 #[.pointer (some ⟨pc,0,none⟩),.pointer (some ⟨pw,0,none⟩),.pointer (some ⟨pb,0,none⟩),.pointer (some ⟨pk,0,none⟩)] V fun e W'=>e = .returned (.tuple #[])/\Hid (CapE ⟨fb,fo,none⟩ (f || capX b) pc pk ((capD b).L R) (capC b) W V W'):=by
 have hfV:fb < V.heap.size:=World.block_lt_of_cell? _ _ hc
 have hcV:pc < V.heap.size:=Cc.lt
 have hkV:pk < V.heap.size:=Ck.lt
 have hwV:pw < V.heap.size:=Cw.lt
 have hbV:pb < V.heap.size:=Cb.lt
 have hWs:W.heap.size <= V.heap.size:=hWV.size
 obtain ⟨X0,hX0⟩:∃ X,X = V.alloc (.cells #[.bool false] 42):=⟨_,rfl⟩
 have hb0:Below V.heap.size V X0:=by rw [hX0];exact n_after _ _
 have Co:CW X0 V.heap.size [.bool false]:=by rw [hX0];exact CW.new V [.bool false] 42
 obtain ⟨ob,hob⟩:∃ o,o = V.heap.size:=⟨_,rfl⟩
 rw [<- hob] at Co
 have Cc:=Cc.step hb0
 have Cw:=Cw.step hb0
 have Cb:=Cb.step hb0
 have Ck:=Ck.step hb0
 have hf:=f_after hb0 hc hf
 have hc:=c_after hb0 hc
 have no:pc ≠ ob:=by omega
 have e1:b.wp b.p = b:=rfl
 have H1:Hid _:=halve_any 77 #[.pointer (some ⟨ob,0,none⟩),.pointer (some ⟨pc,0,none⟩)] (enters_of Tryz.func77 (by kernel_rfl) rfl) ob pc 8 b.wp R (slwP b) (badP b) false b.p X0 (Co 0 _ rfl).1 (Co 0 _ rfl).2 Cc no hR (by decide) (fun _=>rfl) (fun _=>rfl) (fun _=>rfl) (fun _ _=>rfl)
  (fun q g X h1 h2 h3=>slowP_any ob pc b R hR hk q g X h1 h2 h3) (slowP_zero b) hp
 obtain ⟨x9,hx9⟩:∃ x,x = capX b:=⟨_,rfl⟩
 obtain ⟨d9,hd9⟩:∃ x,x = capD b:=⟨_,rfl⟩
 obtain ⟨t9,ht9⟩:∃ x,x = capC b:=⟨_,rfl⟩
 rw [<- hx9,<- hd9,<- ht9]
 have HE:Hid (capL b = hvd (slwL (b.wp (capP b).1)) (badL (b.wp (capP b).1)) 64 b.l/\x9 = ((capP b).2.2 || (capL b).2.2)/\(d9 = if b.k = 2/\x9 = false then (b.wp (capP b).1).wl (capL b).1 else b)/\(t9 = if b.k = 2/\x9 = false then (capP b).2.1 || (capL b).2.1 else false)):=⟨rfl,hx9,by rw [hd9,hx9];rfl,by rw [ht9,hx9];rfl⟩
 clear hx9 hd9 ht9
 have H1:Hid (Calls Tryz.prog 76 #[.pointer (some ⟨pc,8,none⟩),.func (.func 77) #[] #[.pointer (some ⟨ob,0,none⟩),.pointer (some ⟨pc,0,none⟩)]] X0 fun e W'=>e = .returned (.bool (capP b).2.1)/\Hid (Clo ⟨ob,0,none⟩ (capP b).2.2 pc ((b.wp (capP b).1).L R) X0 W')):=by
  have h9:=H1.out
  have e9:hvd (slwP b) (badP b) 64 b.p = capP b:=rfl
  rw [e9] at h9
  rw [Bool.false_or] at h9
  exact h9
 generalize capP b = rp at *
 have hWV:Hid (Leaves _ _ _):=hWV.step (hb0.mono hWs)
 have h0V:Hid (∀ j,j < V.heap.size->X0.heap[j]? = V.heap[j]?):=fun j h=>hb0.block j h
 have hs0:=hb0.size
 clear Co hb0 e1
 go_enter Tryz.func75,Tryz.ntmps75
 go_upto_region 1 with fail
 rw [<- hX0,<- hob]
 have ho1:ob <= V.heap.size:=by omega
 have ho2:V.heap.size <= ob:=by omega
 clear hX0 hob
 go_wp2_with (fail)
 refine Calls.mono H1.out ?_
 rintro e X1 ⟨rfl,K1⟩
 have K1:Hid (Clo _ _ _ _ _ _):=K1.out
 clear H1
 have H2:Hid _:=halve_any 79 #[.pointer (some ⟨ob,0,none⟩),.pointer (some ⟨pc,0,none⟩)] (enters_of Tryz.func79 (by kernel_rfl) rfl) ob pc 11 (b.wp rp.1).wl R (slwL (b.wp rp.1)) (badL (b.wp rp.1)) rp.2.2 b.l X1 K1.out.cell K1.out.frozen K1.out.cw no hR (by decide) (fun _=>rfl) (fun _=>rfl) (fun _=>rfl) (fun _ _=>rfl)
  (fun q g X h1 h2 h3=>slowL_any ob pc (b.wp rp.1) R hR hk q g X h1 h2 h3) (slowL_zero (b.wp rp.1)) hl
 have H2:Hid (Calls Tryz.prog 76 #[.pointer (some ⟨pc,11,none⟩),.func (.func 79) #[] #[.pointer (some ⟨ob,0,none⟩),.pointer (some ⟨pc,0,none⟩)]] X1 fun e W'=>e = .returned (.bool (capL b).2.1)/\Hid (Clo ⟨ob,0,none⟩ (rp.2.2 || (capL b).2.2) pc (((b.wp rp.1).wl (capL b).1).L R) X1 W')):=by
  have h9:=H2.out
  rw [<- HE.out.1] at h9
  exact h9
 generalize capL b = rl at *
 go_wp2_with (fail)
 refine Calls.mono H2.out ?_
 rintro e X2 ⟨rfl,K2⟩
 have T2:=K1.out.two.trans K2.out.two
 have K2:Hid (Clo _ _ _ _ _ _):=K2.out
 have hL2:Hid (Leaves ⟨fb,fo,none⟩ W X2):=hWV.out.step (T2.keep (B:=W.heap.size) (by show _ <= ob;omega) hWc (by omega))
 have h2V:Hid (∀ j,j < V.heap.size->j ≠ pc->X2.heap[j]? = V.heap[j]?):=fun j h1 h2=>(T2.kept.2.2.2 j (by omega) (by show j ≠ ob;omega) h2).trans (h0V.out j h1)
 have Cw:=Cw.two T2 (by show pw ≠ ob;omega) cw
 have Cb:=Cb.two T2 (by show pb ≠ ob;omega) cb
 have Ck:=Ck.two T2 (by show pk ≠ ob;omega) ck
 have hfl:=T2.other ⟨fb,fo,none⟩ (by show fb < _;omega) (by show fb ≠ ob;omega) (fun e=>nc e.symm)
 have hc2:=hfl.1.trans hc
 have hf2:=hfl.2.trans hf
 have ho:=K2.out.cell
 have Cc:=K2.out.cw
 have nc':fb ≠ pc:=fun e=>nc e.symm
 have nk':fb ≠ pk:=fun e=>nk e.symm
 have kw:=(Cw 0 _ rfl).1
 clear H2 K1 T2 hfl hc hf hWV h0V K2
 have HX:Hid (x9 = (rp.2.2 || rl.2.2)):=HE.out.2.1
 have HD:Hid (d9 = if b.k = 2/\x9 = false then (b.wp rp.1).wl rl.1 else b):=HE.out.2.2.1
 have HT:Hid (t9 = if b.k = 2/\x9 = false then rp.2.1 || rl.2.1 else false):=HE.out.2.2.2
 clear HE
 rw [<- HX.out] at ho
 cases x9 with
 | true =>
  obtain ⟨p0,g0⟩:=Cc 8 _ rfl
  obtain ⟨p1,g1⟩:=Cc 9 _ rfl
  obtain ⟨p2,g2⟩:=Cc 10 _ rfl
  obtain ⟨p3,g3⟩:=Cc 11 _ rfl
  obtain ⟨p4,g4⟩:=Cc 12 _ rfl
  obtain ⟨p5,g5⟩:=Cc 13 _ rfl
  have b0:=(Cb 8 _ rfl).1
  have b1:=(Cb 9 _ rfl).1
  have b2:=(Cb 10 _ rfl).1
  have b3:=(Cb 11 _ rfl).1
  have b4:=(Cb 12 _ rfl).1
  have b5:=(Cb 13 _ rfl).1
  have HCC:Hid (CW _ _ _):=Cc
  have HCK:Hid (CW _ _ _):=Ck
  clear Cb Cw Ck Cc
  have hz9:Hid (d9 = b):=by show _ = _;rw [HD.out,if_neg (fun h=>by cases h.2)]
  have ht9:Hid (t9 = false):=by show _ = _;rw [HT.out,if_neg (fun h=>by cases h.2)]
  clear HD HT HX
  go_upto_region 5 with fail
  go_region
  go_wp2_with (fail)
  refine bodyPost_ret (results_none Tryz.results75 _ _ _) rfl ?_
  refine ⟨rfl,?_⟩
  rw [hz9.out,ht9.out,Bool.or_true]
  have h31:=hR.all ((b.wp rp.1).wl rl.1)
  have h9:CapE ⟨fb,fo,none⟩ f pc pk (((b.wp rp.1).wl rl.1).L R) false W V X2:=⟨hL2.out,hc2,hf2,HCC.out,HCK.out,fun j h1 _ h3 _=>h2V.out j h1 h3⟩
  have h9:=(((h9.flag nc nk).put hWc nc ck 8 (.int .i64 b.p.x) (by omega)).put hWc nc ck 9 (.int .i64 b.p.y) (by simp;omega)).put hWc nc ck 10 (.int .i64 b.p.z) (by simp;omega)
  have h9:=((h9.put hWc nc ck 11 (.int .i64 b.l.x) (by simp;omega)).put hWc nc ck 12 (.int .i64 b.l.y) (by simp;omega)).put hWc nc ck 13 (.int .i64 b.l.z) (by simp;omega)
  exact h9.drew
 | false =>
  obtain ⟨r0,q0⟩:=Ck 0 _ rfl
  have HCC:Hid (CW _ _ _):=Cc
  have HCK:Hid (CW _ _ _):=Ck
  clear Cb Cw Ck Cc
  have hz9:Hid (d9 = (b.wp rp.1).wl rl.1):=by show _ = _;rw [HD.out,if_pos ⟨hk,rfl⟩]
  have ht9:Hid (t9 = (rp.2.1 || rl.2.1)):=by show _ = _;rw [HT.out,if_pos ⟨hk,rfl⟩]
  clear HD HT HX
  generalize rp.2.1 = s1 at *
  generalize rl.2.1 = s2 at *
  cases s1 with
  | true =>
   go_wp2_with (fail)
   go_end0
   refine ⟨rfl,?_⟩
   rw [hz9.out,ht9.out,Bool.or_false,Bool.true_or]
   exact ⟨hL2.out.set hWk _,(World.cell?_setCell_other _ _ _ _ (fun e=>nk (Addr.mk.inj e).1)).trans hc2,by simp [go_sem,hf2],HCC.out.other (a:=⟨pk,0,none⟩) ck _,HCK.out.set 0 (.bool true) (by simp),fun j h1 h2 h3 h4=>(Below.heap_setCell _ _ _ _ h4).trans (h2V.out j h1 h3)⟩
  | false =>
   go_wp2_with (fail)
   go_end0
   refine ⟨rfl,?_⟩
   rw [hz9.out,ht9.out,Bool.or_false,Bool.false_or]
   exact ⟨hL2.out.set hWk _,(World.cell?_setCell_other _ _ _ _ (fun e=>nk (Addr.mk.inj e).1)).trans hc2,by simp [go_sem,hf2],HCC.out.other (a:=⟨pk,0,none⟩) ck _,HCK.out.set 0 (.bool s2) (by simp),fun j h1 h2 h3 h4=>(Below.heap_setCell _ _ _ _ h4).trans (h2V.out j h1 h3)⟩
theorem cap_any (fb fo:Nat) (f:Bool) (b:Bd) (R:List Value) (pv:Value) (Ls:List Pt) (hR:RestP R pv) (hp:Sml 64 b.p) (hl9:Sml 64 b.l) (W:World) (hc:W.cell? ⟨fb,fo,none⟩ = some (.bool f)) (hf:W.frozen? ⟨fb,fo,none⟩ = false) (hv:Lies W pv Ls) (hl:Ls.length <= 100000) :
  Calls Tryz.prog 28 #[.pointer (some ⟨fb,fo,none⟩),.agg (b.L R).toArray] W fun e W'=>∃ u,e = .returned (.tuple #[.agg ((capD b).L (R.set 5 u)).toArray,.bool (capC b)])/\Hid (After ⟨fb,fo,none⟩ (f || if2B b.k (capX b)) W W')/\Hid (W'.ownsRow W.heap.size 30 3 u Ls.length (fl3 Ls)):=by
 have hbW:fb < W.heap.size:=World.block_lt_of_cell? _ _ hc
 have hz:Hid _:=body_size hR.rest b
 obtain ⟨V,hV⟩:∃ V,V = ((((W.alloc (.cells #[.pointer (some ⟨fb,fo,none⟩)] 40)).alloc (.cells (b.L R).toArray 35)).alloc (.cells #[.int .i64 0,.int .i64 0,.int .i64 0,.int .i64 0,.int .i64 0,.int .i64 0,.int .i64 0,.int .i64 0,.int .i64 0,.int .i64 0,.int .i64 0,.int .i64 0,.int .i64 0,.int .i64 0,.int .i64 0,.int .i64 0,.int .i64 0,.int .i64 0,.int .i64 0,.int .i64 0,.int .i64 0,.int .i64 0,.int .i64 0,.slice none 0 0,.int .i64 0,.int .i64 0,.int .i64 0,.bool false,.int .i64 0,.bool false,.bool false] 35)).alloc (.cells #[.bool false] 4)):=⟨_,rfl⟩
 have hb0:=n_after W (.cells #[.pointer (some ⟨fb,fo,none⟩)] 40)
 have hb1:=n_after (W.alloc (.cells #[.pointer (some ⟨fb,fo,none⟩)] 40)) (.cells (b.L R).toArray 35)
 have hb2:=n_after ((W.alloc (.cells #[.pointer (some ⟨fb,fo,none⟩)] 40)).alloc (.cells (b.L R).toArray 35)) (.cells #[.int .i64 0,.int .i64 0,.int .i64 0,.int .i64 0,.int .i64 0,.int .i64 0,.int .i64 0,.int .i64 0,.int .i64 0,.int .i64 0,.int .i64 0,.int .i64 0,.int .i64 0,.int .i64 0,.int .i64 0,.int .i64 0,.int .i64 0,.int .i64 0,.int .i64 0,.int .i64 0,.int .i64 0,.int .i64 0,.int .i64 0,.slice none 0 0,.int .i64 0,.int .i64 0,.int .i64 0,.bool false,.int .i64 0,.bool false,.bool false] 35)
 have hb3:=n_after (((W.alloc (.cells #[.pointer (some ⟨fb,fo,none⟩)] 40)).alloc (.cells (b.L R).toArray 35)).alloc (.cells #[.int .i64 0,.int .i64 0,.int .i64 0,.int .i64 0,.int .i64 0,.int .i64 0,.int .i64 0,.int .i64 0,.int .i64 0,.int .i64 0,.int .i64 0,.int .i64 0,.int .i64 0,.int .i64 0,.int .i64 0,.int .i64 0,.int .i64 0,.int .i64 0,.int .i64 0,.int .i64 0,.int .i64 0,.int .i64 0,.int .i64 0,.slice none 0 0,.int .i64 0,.int .i64 0,.int .i64 0,.bool false,.int .i64 0,.bool false,.bool false] 35)) (.cells #[.bool false] 4)
 have Cw:CW V (W.heap.size) [.pointer (some ⟨fb,fo,none⟩)]:=by
  have h9:=(((CW.new W [.pointer (some ⟨fb,fo,none⟩)] 40).step hb1).step hb2).step hb3
  rw [hV];exact h9
 have Cb:CW V (W.heap.size + 1) (b.L R):=by
  have h9:=((CW.new (W.alloc (.cells #[.pointer (some ⟨fb,fo,none⟩)] 40)) (b.L R) 35).step hb2).step hb3
  simp only [World.size_alloc] at h9
  rw [hV];exact h9
 have Cr:CW V (W.heap.size + 1 + 1) [.int .i64 0,.int .i64 0,.int .i64 0,.int .i64 0,.int .i64 0,.int .i64 0,.int .i64 0,.int .i64 0,.int .i64 0,.int .i64 0,.int .i64 0,.int .i64 0,.int .i64 0,.int .i64 0,.int .i64 0,.int .i64 0,.int .i64 0,.int .i64 0,.int .i64 0,.int .i64 0,.int .i64 0,.int .i64 0,.int .i64 0,.slice none 0 0,.int .i64 0,.int .i64 0,.int .i64 0,.bool false,.int .i64 0,.bool false,.bool false]:=by
  have h9:=(CW.new ((W.alloc (.cells #[.pointer (some ⟨fb,fo,none⟩)] 40)).alloc (.cells (b.L R).toArray 35)) [.int .i64 0,.int .i64 0,.int .i64 0,.int .i64 0,.int .i64 0,.int .i64 0,.int .i64 0,.int .i64 0,.int .i64 0,.int .i64 0,.int .i64 0,.int .i64 0,.int .i64 0,.int .i64 0,.int .i64 0,.int .i64 0,.int .i64 0,.int .i64 0,.int .i64 0,.int .i64 0,.int .i64 0,.int .i64 0,.int .i64 0,.slice none 0 0,.int .i64 0,.int .i64 0,.int .i64 0,.bool false,.int .i64 0,.bool false,.bool false] 35).step hb3
  simp only [World.size_alloc] at h9
  rw [hV];exact h9
 have Ck:CW V (W.heap.size + 1 + 1 + 1) [.bool false]:=by
  have h9:=CW.new (((W.alloc (.cells #[.pointer (some ⟨fb,fo,none⟩)] 40)).alloc (.cells (b.L R).toArray 35)).alloc (.cells #[.int .i64 0,.int .i64 0,.int .i64 0,.int .i64 0,.int .i64 0,.int .i64 0,.int .i64 0,.int .i64 0,.int .i64 0,.int .i64 0,.int .i64 0,.int .i64 0,.int .i64 0,.int .i64 0,.int .i64 0,.int .i64 0,.int .i64 0,.int .i64 0,.int .i64 0,.int .i64 0,.int .i64 0,.int .i64 0,.int .i64 0,.slice none 0 0,.int .i64 0,.int .i64 0,.int .i64 0,.bool false,.int .i64 0,.bool false,.bool false] 35)) [.bool false] 4
  simp only [World.size_alloc] at h9
  rw [hV];exact h9
 have hB:Below W.heap.size W V:=by rw [hV];exact (b_step (b_step (b_step hb0 hb1) hb2) hb3)
 have hcV:=c_after hB hc
 have hfV:=f_after hB hc hf
 have HLV:Hid (Leaves ⟨fb,fo,none⟩ W V):=(Leaves.refl _ _).step hB
 clear hb0 hb1 hb2 hb3
 have hWV:W.heap.size <= V.heap.size:=hB.size
 have HCP:Hid _:=copied_any b R pv Ls hR V (hv.below hB) hl
 clear hc hf hv hB
 go_enter Tryz.func28,Tryz.ntmps28
 go_upto_region 1 with fail
 rw [<- hV]
 clear hV
 obtain ⟨pk,hpk⟩:∃ p,p = W.heap.size + 1 + 1 + 1:=⟨_,rfl⟩
 obtain ⟨pr,hpr⟩:∃ p,p = W.heap.size + 1 + 1:=⟨_,rfl⟩
 obtain ⟨pb,hpb⟩:∃ p,p = W.heap.size + 1:=⟨_,rfl⟩
 obtain ⟨pw,hpw⟩:∃ p,p = W.heap.size:=⟨_,rfl⟩
 rw [<- hpk] at Ck
 rw [<- hpr] at Cr
 rw [<- hpb] at Cb
 rw [<- hpw] at Cw
 rw [<- hpk,<- hpr,<- hpb,<- hpw]
 have nw:pw ≠ fb:=by omega
 have nb:pb ≠ fb:=by omega
 have nr:pr ≠ fb:=by omega
 have nk:pk ≠ fb:=by omega
 have rw:pw ≠ pr:=by omega
 have rb:pb ≠ pr:=by omega
 have rk:pk ≠ pr:=by omega
 have nr':fb ≠ pr:=by omega
 have nk':fb ≠ pk:=by omega
 have hWr:W.heap.size <= pr:=by omega
 have hWk:W.heap.size <= pk:=by omega
 have hrV:pr < V.heap.size:=Cr.lt
 have hkV:pk < V.heap.size:=Ck.lt
 have hZl:([.int .i64 0,.int .i64 0,.int .i64 0,.int .i64 0,.int .i64 0,.int .i64 0,.int .i64 0,.int .i64 0,.int .i64 0,.int .i64 0,.int .i64 0,.int .i64 0,.int .i64 0,.int .i64 0,.int .i64 0,.int .i64 0,.int .i64 0,.int .i64 0,.int .i64 0,.int .i64 0,.int .i64 0,.int .i64 0,.int .i64 0,.slice none 0 0,.int .i64 0,.int .i64 0,.int .i64 0,.bool false,.int .i64 0,.bool false,.bool false]:List Value).length = 31:=rfl
 generalize ([.int .i64 0,.int .i64 0,.int .i64 0,.int .i64 0,.int .i64 0,.int .i64 0,.int .i64 0,.int .i64 0,.int .i64 0,.int .i64 0,.int .i64 0,.int .i64 0,.int .i64 0,.int .i64 0,.int .i64 0,.int .i64 0,.int .i64 0,.int .i64 0,.int .i64 0,.int .i64 0,.int .i64 0,.int .i64 0,.int .i64 0,.slice none 0 0,.int .i64 0,.int .i64 0,.int .i64 0,.bool false,.int .i64 0,.bool false,.bool false]:List Value) = zl at *
 have HRG:Hid (World.rangeAt V pb 0 (b.L R)):=Cb.range
 clear hpw hpb hpr hpk
 go_wp2_with (refine wpList_load_mid rfl 35 _ rfl pb 0 rfl _ _ HRG.out Tryz.underlying35 rfl hz.out ?_)
 refine Calls.mono HCP.out ?_
 rintro e W1 ⟨u,rfl,HR⟩
 have hR2:=hR.set (row_one HR.out.row)
 have hb1:=HR.out.below
 have hs1:=hb1.size
 have Cw:=Cw.step hb1
 have Cb:=Cb.step hb1
 have Cr:=Cr.step hb1
 have Ck:=Ck.step hb1
 have HL1:=HLV.out.step (hb1.mono HLV.out.size)
 have hc1:=c_after hb1 hcV
 have hf1:=f_after hb1 hcV hfV
 have nuk:u.ownBlock ≠ some pk:=fun e=>by have:=(HR.out.row.lt _ e).1;omega
 have nuf:u.ownBlock ≠ some fb:=fun e=>by have:=(HR.out.row.lt _ e).1;omega
 have nur:u.ownBlock ≠ some pr:=fun e=>by have:=(HR.out.row.lt _ e).1;omega
 have HO2:Hid _:=own_sets (Go.Joins.ownsRow_le HR.out.row hWV) nur (b.L (R.set 5 u)) 0
 have HTH:Hid (World.there W1 pr 0 (b.L (R.set 5 u)).toArray.size):=Cr.there31 hZl hR2.rest
 have hy2:Hid _:=body_size2 hR2.rest b
 have h12:Hid _:=hR2.rest.each b
 have Cr:=Cr.sets (us:=b.L (R.set 5 u)) (by rw [hR2.rest.all,hZl])
 have Cw:=Cw.apart (us:=b.L (R.set 5 u)) rw
 have Cb:=Cb.apart (us:=b.L (R.set 5 u)) rb
 have Ck:=Ck.apart (us:=b.L (R.set 5 u)) rk
 have HL2:Hid (Leaves ⟨fb,fo,none⟩ W (W1.setCells pr 0 (b.L (R.set 5 u)))):=HL1.sets hWr _
 have hc2:=(out_sets (w:=W1) (vs:=b.L (R.set 5 u)) (o:=fo) nr').trans hc1
 have hf2:=(World.frozen?_setCells pr (b.L (R.set 5 u)) 0 W1 ⟨fb,fo,none⟩).trans hf1
 have HRG2:Hid (World.rangeAt (W1.setCells pr 0 (b.L (R.set 5 u))) pb 0 (b.L R)):=Cb.range
 clear HCP HRG hcV hfV HLV HL1 hc1 hf1 hb1 HR
 by_cases hk:b.k = 2
 ·have HC:Hid _:=ifm_yes b R hk 75 #[.pointer (some ⟨pr,0,none⟩),.pointer (some ⟨pw,0,none⟩),.pointer (some ⟨pb,0,none⟩),.pointer (some ⟨pk,0,none⟩)] (enters_of Tryz.func75 (by kernel_rfl) rfl) (fun X=>Hid (CapE ⟨fb,fo,none⟩ (f || capX b) pr pk ((capD b).L (R.set 5 u)) (capC b) W ((W1.setCells pr 0 (b.L (R.set 5 u))).alloc (.cells (b.L R).toArray 35)) X)) (W1.setCells pr 0 (b.L (R.set 5 u)))
   (cap1_any fb fo pr pw pb pk f b (R.set 5 u) R W hR2.rest hk hp hl9 ((W1.setCells pr 0 (b.L (R.set 5 u))).alloc (.cells (b.L R).toArray 35)) hbW hWr hWk (HL2.out.step ((n_after (W1.setCells pr 0 (b.L (R.set 5 u))) _).mono HL2.out.size)) (c_after (n_after _ _) hc2) (f_after (n_after _ _) hc2 hf2) (Cr.step (n_after _ _)) (Cw.step (n_after _ _)) (Cb.step (n_after _ _)) (Ck.step (n_after _ _)) nr nw nb nk rw rb rk)
  clear Cw Cb Cr Ck
  go_wp2_with (first | refine wpList_store_mid rfl 35 _ _ rfl pr 0 _ rfl rfl HTH.out hy2.out h12.out ?_ | refine wpList_load_mid rfl 35 _ rfl pb 0 rfl _ _ HRG2.out Tryz.underlying35 rfl hz.out ?_)
  refine Calls.mono HC.out ?_
  rintro e W3 ⟨rfl,HK⟩
  have HL3:Hid (Leaves ⟨fb,fo,none⟩ W W3):=HK.out.leaves
  have hc3:=HK.out.cell
  have hf3:=HK.out.frozen
  have Cr3:=HK.out.cw
  have Ck3:=HK.out.ck
  have HO3:Hid _:=own_heap (w':=W3) (own_below HO2.out (n_after _ _)) (fun g hg=>HK.out.heap g ((own_below HO2.out (n_after _ _)).lt g hg).2 (fun e=>nuf (by rw [hg,e])) (fun e=>nur (by rw [hg,e])) (fun e=>nuk (by rw [hg,e])))
  clear HC HK HRG2 HTH hc2 hf2 HO2 HL2
  have hz3:Hid _:=body_size hR2.rest (capD b)
  have hy3:Hid _:=body_size2 hR2.rest (capD b)
  have h13:Hid _:=hR2.rest.each (capD b)
  have HG:Hid _:=(⟨HL3.out,hc3,hf3,Cr3,Ck3,HO3.out⟩:CapG W ⟨fb,fo,none⟩ ((f || capX b)) pr pk ((capD b).L (R.set 5 u)) (capC b) u Ls W3)
  clear Cr3 Ck3 HL3 HO3 hc3 hf3
  generalize hcs:(capD b).L (R.set 5 u) = cs at *
  have HCS:Hid _:=hcs
  clear hcs
  generalize hct:capC b = ct at *
  have HCT:Hid _:=hct
  clear hct
  go_upto_region 3 with fail
  refine RV.rs [.some (.agg cs.toArray),.some (.bool ct),none,none] [12,13,0,0] [(4,.pointer (some ⟨pr,0,none⟩)),(5,.pointer (some ⟨pk,0,none⟩))] (fun (γ:Nat->Value) (L:Nat->Bool) w=>CapG W ⟨fb,fo,none⟩ (f || capX b) pr pk cs ct u Ls w) ⟨rfl,rfl,trivial⟩ ?_ ?_ ?_
  ·exact HG.out.drew
  ·intro D WA Z hD hWA hZ T
   simp only [RV.Outs,RV.Slots,Nat.reduceAdd] at T
   refine RV.cc _ (RV.does_step (fun γ L a w hH hl hA=>by have h9:=T γ L a w hH;exact ⟨.agg cs.toArray,w,exec_load_mid 35 _ rfl pr 0 (by simp [go_sem,h9]) _ _ hH.glob.cw.range Tryz.underlying35 rfl hz3.out,rfl,fun _ _ _ h=>h,hH.glob⟩)) ?_
   (refine RV.cc _ (RV.pu T (fun γ v L w hl h=>h) (fun γ L a w hH hl h9 k9=>⟨_,?_,rfl⟩)) ?_;· have q0:=(hH.glob.ck 0 _ rfl).1;simp [execOp,go_sem,h9,q0])
   refine RV.cc _ (RV.does_store (fun γ L a w hH hl hA=>by have h9:=T γ L a w hH;have k9:=hA;simp [Region.binds] at k9;exact ⟨w.setCells pr 0 cs,exec_store_mid 35 _ _ rfl pr 0 cs.toArray (by simp [go_sem,h9]) (by simp [go_sem,h9,k9]) (by rw [List.size_toArray];exact hH.glob.cw.there) hy3.out h13.out,trivial,fun j v _ h=>h.keep _,hH.glob.sets hWr nr' rk nur⟩)) ?_
   refine RV.cc _ (RV.does_store (fun γ L a w hH hl hA=>by have h9:=T γ L a w hH;have k9:=hA;simp [Region.binds] at k9;have z0:=(hH.glob.ck 0 _ rfl).1;have zf:=(hH.glob.ck 0 _ rfl).2;exact ⟨w.setCell ⟨pk,0,none⟩ (.bool ct),by simp [execOp,go_sem,z0,zf,h9,k9],trivial,fun j v _ h=>h.keep _,hH.glob.put hWk nk' rk nuk⟩)) ?_
   exact RV.AllDo.nil
  ·intro γ w5 L9 hL hI9 hG9
   have HG5:Hid (CapG _ _ _ _ _ _ _ _ _ _):=hG9
   clear hL hI9 hG9
   simp only [RV.putL,Act.put,List.setIfInBounds_toArray,List.set_cons_zero,List.set_cons_succ]
   go_wp2_with (fail)
   refine bodyPost_ret (results_two (u:=.bool ct) 4 5 35 4 Tryz.results28 ⟨pr,0,none⟩ ⟨pk,0,none⟩ rfl rfl (run_loadVar_mid _ pr 0 35 cs _ HG5.out.cw.range Tryz.underlying35 rfl hz3.out) (by have z0:=(HG5.out.ck 0 _ rfl).1;simp [go_sem,z0])) rfl ?_
   exact ⟨u,by rw [<- HCS.out,<- HCT.out],by rw [if2B,if_pos hk];exact HG5.out.leaves.done HG5.out.cell HG5.out.frozen,HG5.out.row⟩
 ·have HC:Hid _:=ifm_no b R (.func (.func 75) #[] #[.pointer (some ⟨pr,0,none⟩),.pointer (some ⟨pw,0,none⟩),.pointer (some ⟨pb,0,none⟩),.pointer (some ⟨pk,0,none⟩)]) hk (W1.setCells pr 0 (b.L (R.set 5 u)))
  have HRR:Hid (CW _ _ _):=Cr
  have HKK:Hid (CW _ _ _):=Ck
  have hD:capD b = b:=by unfold capD;rw [if_neg (fun h=>hk h.1)]
  have hC:capC b = false:=by unfold capC;rw [if_neg (fun h=>hk h.1)]
  have HD9:Hid _:=And.intro hD hC
  clear Cw Cb Cr Ck hD hC
  go_wp2_with (first | refine wpList_store_mid rfl 35 _ _ rfl pr 0 _ rfl rfl HTH.out hy2.out h12.out ?_ | refine wpList_load_mid rfl 35 _ rfl pb 0 rfl _ _ HRG2.out Tryz.underlying35 rfl hz.out ?_)
  refine Calls.mono HC.out ?_
  rintro e W3 ⟨rfl,HK⟩
  have HL3:Hid (Leaves ⟨fb,fo,none⟩ W W3):=HL2.out.step (HK.out.mono HL2.out.size)
  have hc3:=c_after HK.out hc2
  have hf3:=f_after HK.out hc2 hf2
  have Cr3:=HRR.out.step HK.out
  have Ck3:=HKK.out.step HK.out
  have HO3:Hid _:=own_below HO2.out HK.out
  clear HC HK HRG2 HTH hc2 hf2 HO2 HL2 HRR HKK
  have hz3:Hid _:=body_size hR2.rest (b)
  have hy3:Hid _:=body_size2 hR2.rest (b)
  have h13:Hid _:=hR2.rest.each (b)
  have HG:Hid _:=(⟨HL3.out,hc3,hf3,Cr3,Ck3,HO3.out⟩:CapG W ⟨fb,fo,none⟩ (f) pr pk ((b).L (R.set 5 u)) (false) u Ls W3)
  clear Cr3 Ck3 HL3 HO3 hc3 hf3
  generalize hcs:(b).L (R.set 5 u) = cs at *
  have HCS:Hid _:=hcs
  clear hcs
  obtain ⟨ct,hct⟩:∃ x,false = x:=⟨_,rfl⟩
  rw [hct] at HG
  have HCT:Hid _:=hct
  clear hct
  go_upto_region 3 with fail
  refine RV.rs [.some (.agg cs.toArray),.some (.bool ct),none,none] [12,13,0,0] [(4,.pointer (some ⟨pr,0,none⟩)),(5,.pointer (some ⟨pk,0,none⟩))] (fun (γ:Nat->Value) (L:Nat->Bool) w=>CapG W ⟨fb,fo,none⟩ f pr pk cs ct u Ls w) ⟨rfl,rfl,trivial⟩ ?_ ?_ ?_
  ·exact HG.out.drew
  ·intro D WA Z hD hWA hZ T
   simp only [RV.Outs,RV.Slots,Nat.reduceAdd] at T
   refine RV.cc _ (RV.does_step (fun γ L a w hH hl hA=>by have h9:=T γ L a w hH;exact ⟨.agg cs.toArray,w,exec_load_mid 35 _ rfl pr 0 (by simp [go_sem,h9]) _ _ hH.glob.cw.range Tryz.underlying35 rfl hz3.out,rfl,fun _ _ _ h=>h,hH.glob⟩)) ?_
   (refine RV.cc _ (RV.pu T (fun γ v L w hl h=>h) (fun γ L a w hH hl h9 k9=>⟨_,?_,rfl⟩)) ?_;· have q0:=(hH.glob.ck 0 _ rfl).1;simp [execOp,go_sem,h9,q0])
   refine RV.cc _ (RV.does_store (fun γ L a w hH hl hA=>by have h9:=T γ L a w hH;have k9:=hA;simp [Region.binds] at k9;exact ⟨w.setCells pr 0 cs,exec_store_mid 35 _ _ rfl pr 0 cs.toArray (by simp [go_sem,h9]) (by simp [go_sem,h9,k9]) (by rw [List.size_toArray];exact hH.glob.cw.there) hy3.out h13.out,trivial,fun j v _ h=>h.keep _,hH.glob.sets hWr nr' rk nur⟩)) ?_
   refine RV.cc _ (RV.does_store (fun γ L a w hH hl hA=>by have h9:=T γ L a w hH;have k9:=hA;simp [Region.binds] at k9;have z0:=(hH.glob.ck 0 _ rfl).1;have zf:=(hH.glob.ck 0 _ rfl).2;exact ⟨w.setCell ⟨pk,0,none⟩ (.bool ct),by simp [execOp,go_sem,z0,zf,h9,k9],trivial,fun j v _ h=>h.keep _,hH.glob.put hWk nk' rk nuk⟩)) ?_
   exact RV.AllDo.nil
  ·intro γ w5 L9 hL hI9 hG9
   have HG5:Hid (CapG _ _ _ _ _ _ _ _ _ _):=hG9
   clear hL hI9 hG9
   simp only [RV.putL,Act.put,List.setIfInBounds_toArray,List.set_cons_zero,List.set_cons_succ]
   go_wp2_with (fail)
   refine bodyPost_ret (results_two (u:=.bool ct) 4 5 35 4 Tryz.results28 ⟨pr,0,none⟩ ⟨pk,0,none⟩ rfl rfl (run_loadVar_mid _ pr 0 35 cs _ HG5.out.cw.range Tryz.underlying35 rfl hz3.out) (by have z0:=(HG5.out.ck 0 _ rfl).1;simp [go_sem,z0])) rfl ?_
   exact ⟨u,by rw [HD9.out.1,HD9.out.2,HCS.out,HCT.out],by rw [if2B,if_neg hk,Bool.or_false];exact HG5.out.leaves.done HG5.out.cell HG5.out.frozen,HG5.out.row⟩
end
end Go.Proofs.YtpjaacpcdomfiaaGreat
