/- Along the whole way up to the part that is told a core is apart from the other one, at every moment of it: for all raw shapes, poses, ways and moments. -/
import Derived.Test.YtohbjabihdgjhaaGreatSSFree24
import Derived.Test.YtohbjabihdgjhaaGreatSSFree5
import Derived.Test.YtohbjabihdgjhaaGreatSSFree25
import Derived.Deep.MidRow
import Derived.Deep.CutRange
import Derived.Deep.LoopGhost
import Derived.Test.YtohbjabihdgjhaaGreatRows
import Derived.ProofKit
import Derived.OpenShut
set_option maxHeartbeats 32000000
set_option maxRecDepth 100000
set_option linter.unusedVariables false
namespace Go.Proofs.YtohbjabihdgjhaaGreat
section
namespace sweepFree
open Go.ChangeShapes Go.WideShapes Go.ChangeAt Go.RowKit Go.Shelf
theorem own:ownKnob Tryz.prog.godebug = none:=by kernel_rfl
theorem laidOut:laidOutB Tryz.prog = true:=by kernel_rfl
theorem walk (k1t r1t x1t y1t z1t:Int) (o1t:Option Addr) (L1t:List Pt) (c1t:Nat) (k2t r2t x2t y2t z2t:Int) (o2t:Option Addr) (L2t:List Pt) (c2t:Nat) (p0t p1t p2t p3t p4t p5t p6t q0t q1t q2t q3t q4t q5t q6t nrt wxt wyt wzt:Int) (vx vy vz mo:Int) (w0:World) (hbt:∀ v ∈ ([k1t,r1t,x1t,y1t,z1t,k2t,r2t,x2t,y2t,z2t,p0t,p1t,p2t,p3t,p4t,p5t,p6t,q0t,q1t,q2t,q3t,q4t,q5t,q6t,nrt,wxt,wyt,wzt]:List Int),-9223372036854775808 <= v/\v <= 9223372036854775807) (hL1t:Lies w0 (.slice o1t L1t.length c1t) L1t) (hF1t:∀ p ∈ L1t,p.fits) (hL2t:Lies w0 (.slice o2t L2t.length c2t) L2t) (hF2t:∀ p ∈ L2t,p.fits) (bvx:-9223372036854775808 <= vx/\vx <= 9223372036854775807) (bvy:-9223372036854775808 <= vy/\vy <= 9223372036854775807) (bvz:-9223372036854775808 <= vz/\vz <= 9223372036854775807) (bmo:-9223372036854775808 <= mo/\mo <= 9223372036854775807) :
  Calls Tryz.prog 3 #[.agg #[.int .i64 k1t,.int .i64 r1t,.int .i64 x1t,.int .i64 y1t,.int .i64 z1t,.slice o1t L1t.length c1t,.int .i64 k2t,.int .i64 r2t,.int .i64 x2t,.int .i64 y2t,.int .i64 z2t,.slice o2t L2t.length c2t,.int .i64 p0t,.int .i64 p1t,.int .i64 p2t,.int .i64 p3t,.int .i64 p4t,.int .i64 p5t,.int .i64 p6t,.int .i64 q0t,.int .i64 q1t,.int .i64 q2t,.int .i64 q3t,.int .i64 q4t,.int .i64 q5t,.int .i64 q6t,.int .i64 nrt,.int .i64 wxt,.int .i64 wyt,.int .i64 wzt],.agg #[.int .i64 vx,.int .i64 vy,.int .i64 vz],.int .i64 mo] w0 fun e w'=>e = .returned (.bool true)/\Below w0.heap.size w0 w':=by
 have HC1:Hid _:=fun w' (h:Below w0.heap.size w0 w')=>cores_any k1t r1t x1t y1t z1t o1t L1t c1t k2t r2t x2t y2t z2t o2t L2t c2t p0t p1t p2t p3t p4t p5t p6t q0t q1t q2t q3t q4t q5t q6t nrt wxt wyt wzt w' hbt (hL1t.below h) hF1t (hL2t.below h) hF2t
 have AW:Hid _:=fun W=>wawake_any W
 have HPM:Hid _:=fun W=>wpick_b mo 1025 W bmo (by decide) (by decide)
 obtain ⟨mN,hmN⟩:∃ x,pickY mo 1025 = x:=⟨_,rfl⟩
 have lm:=pickY_lo mo (n:=1025) (by decide)
 have mm:=pickY_hi mo (n:=1025) (by decide)
 rw [hmN] at HPM lm mm
 have HMM:Hid (0 <= mN/\mN <= 1024):=by show _/\_;omega
 have HVx:Hid _:=fun W=>wpick_b vx 262144 W bvx (by decide) (by decide)
 have HVy:Hid _:=fun W=>wpick_b vy 262144 W bvy (by decide) (by decide)
 have HVz:Hid _:=fun W=>wpick_b vz 262144 W bvz (by decide) (by decide)
 obtain ⟨ex,hex⟩:∃ x,pickY vx 262144 = x:=⟨_,rfl⟩
 have lex:=pickY_lo vx (n:=262144) (by decide)
 have mex:=pickY_hi vx (n:=262144) (by decide)
 rw [hex] at HVx lex mex
 obtain ⟨ux,hux⟩:∃ x,ex - 131072 = x:=⟨_,rfl⟩
 have w_ux:IntKind.i64.wrap (ex - 131072) = ux:=by rw [hux,IntKind.wrap_i64];omega
 obtain ⟨ey,hey⟩:∃ x,pickY vy 262144 = x:=⟨_,rfl⟩
 have ley:=pickY_lo vy (n:=262144) (by decide)
 have mey:=pickY_hi vy (n:=262144) (by decide)
 rw [hey] at HVy ley mey
 obtain ⟨uy,huy⟩:∃ x,ey - 131072 = x:=⟨_,rfl⟩
 have w_uy:IntKind.i64.wrap (ey - 131072) = uy:=by rw [huy,IntKind.wrap_i64];omega
 obtain ⟨ez,hez⟩:∃ x,pickY vz 262144 = x:=⟨_,rfl⟩
 have lez:=pickY_lo vz (n:=262144) (by decide)
 have mez:=pickY_hi vz (n:=262144) (by decide)
 rw [hez] at HVz lez mez
 obtain ⟨uz,huz⟩:∃ x,ez - 131072 = x:=⟨_,rfl⟩
 have w_uz:IntKind.i64.wrap (ez - 131072) = uz:=by rw [huz,IntKind.wrap_i64];omega
 have hUB:Pt.inB ⟨ux,uy,uz⟩ 131072 = true:=by rw [Pt.inB_iff];dsimp only;omega
 have HUB:Hid _:=hUB
 clear hbt hL1t hF1t hL2t hF2t bvx bvy bvz bmo hmN lm mm hUB hex hux lex mex hey huy ley mey hez huz lez mez
 obtain ⟨A1,hA1⟩:∃ V,V = w0.alloc (.cells #[.int .i64 k1t,.int .i64 r1t,.int .i64 x1t,.int .i64 y1t,.int .i64 z1t,.slice o1t L1t.length c1t,.int .i64 k2t,.int .i64 r2t,.int .i64 x2t,.int .i64 y2t,.int .i64 z2t,.slice o2t L2t.length c2t,.int .i64 p0t,.int .i64 p1t,.int .i64 p2t,.int .i64 p3t,.int .i64 p4t,.int .i64 p5t,.int .i64 p6t,.int .i64 q0t,.int .i64 q1t,.int .i64 q2t,.int .i64 q3t,.int .i64 q4t,.int .i64 q5t,.int .i64 q6t,.int .i64 nrt,.int .i64 wxt,.int .i64 wyt,.int .i64 wzt] 33):=⟨_,rfl⟩
 obtain ⟨W1,hW1⟩:∃ V,V = A1.alloc (.cells #[.int .i64 vx,.int .i64 vy,.int .i64 vz] 23):=⟨_,rfl⟩
 have z1:A1.heap.size = w0.heap.size + 1:=by rw [hA1,World.size_alloc]
 have k1:=n_after w0 (.cells #[.int .i64 k1t,.int .i64 r1t,.int .i64 x1t,.int .i64 y1t,.int .i64 z1t,.slice o1t L1t.length c1t,.int .i64 k2t,.int .i64 r2t,.int .i64 x2t,.int .i64 y2t,.int .i64 z2t,.slice o2t L2t.length c2t,.int .i64 p0t,.int .i64 p1t,.int .i64 p2t,.int .i64 p3t,.int .i64 p4t,.int .i64 p5t,.int .i64 p6t,.int .i64 q0t,.int .i64 q1t,.int .i64 q2t,.int .i64 q3t,.int .i64 q4t,.int .i64 q5t,.int .i64 q6t,.int .i64 nrt,.int .i64 wxt,.int .i64 wyt,.int .i64 wzt] 33)
 have k2:=n_after A1 (.cells #[.int .i64 vx,.int .i64 vy,.int .i64 vz] 23)
 rw [<- hA1] at k1
 rw [<- hW1] at k2
 obtain ⟨tb,htb⟩:∃ b,b = w0.heap.size:=⟨_,rfl⟩
 obtain ⟨vb,hvb⟩:∃ b,b = w0.heap.size + 1:=⟨_,rfl⟩
 have n1:=CelW.new w0 [.int .i64 k1t,.int .i64 r1t,.int .i64 x1t,.int .i64 y1t,.int .i64 z1t,.slice o1t L1t.length c1t,.int .i64 k2t,.int .i64 r2t,.int .i64 x2t,.int .i64 y2t,.int .i64 z2t,.slice o2t L2t.length c2t,.int .i64 p0t,.int .i64 p1t,.int .i64 p2t,.int .i64 p3t,.int .i64 p4t,.int .i64 p5t,.int .i64 p6t,.int .i64 q0t,.int .i64 q1t,.int .i64 q2t,.int .i64 q3t,.int .i64 q4t,.int .i64 q5t,.int .i64 q6t,.int .i64 nrt,.int .i64 wxt,.int .i64 wyt,.int .i64 wzt] 33
 have n2:=CelW.new A1 [.int .i64 vx,.int .i64 vy,.int .i64 vz] 23
 rw [<- hA1,<- htb] at n1
 rw [<- hW1,z1,<- hvb] at n2
 have CF:Hid (CelW W1 tb [.int .i64 k1t,.int .i64 r1t,.int .i64 x1t,.int .i64 y1t,.int .i64 z1t,.slice o1t L1t.length c1t,.int .i64 k2t,.int .i64 r2t,.int .i64 x2t,.int .i64 y2t,.int .i64 z2t,.slice o2t L2t.length c2t,.int .i64 p0t,.int .i64 p1t,.int .i64 p2t,.int .i64 p3t,.int .i64 p4t,.int .i64 p5t,.int .i64 p6t,.int .i64 q0t,.int .i64 q1t,.int .i64 q2t,.int .i64 q3t,.int .i64 q4t,.int .i64 q5t,.int .i64 q6t,.int .i64 nrt,.int .i64 wxt,.int .i64 wyt,.int .i64 wzt]):=n1.step k2
 have CV:Hid (CelW W1 vb [.int .i64 vx,.int .i64 vy,.int .i64 vz]):=n2
 have hB1:Below w0.heap.size w0 W1:=b_step k1 k2
 have hlv:=CelW.lt CV.out
 have HS:Hid (SB w0 W1 W1.heap.size tb vb [] []):=⟨hB1,Nat.le_refl _,(by omega),(fun p hp=>by cases hp),(fun p hp=>by cases hp),(fun p hp=>by cases hp),(fun p hp=>by cases hp)⟩
 clear n1 n2 hB1 hlv k1 k2
 go_enter Tryz.func3,Tryz.ntmps3
 go_upto_region 1 with fail
 rw [<- hA1,<- hW1,<- hvb,<- htb]
 clear hW1 hA1 z1 htb hvb
 go_wp2_with (fail)
 refine Calls.mono (AW.out _) ?_
 rintro e V1 ⟨rfl,hb⟩
 have HS:Hid _:=HS.out.step hb
 have CF:Hid (CelW _ _ _):=CF.out.step hb
 have CV:Hid (CelW _ _ _):=CV.out.step hb
 clear hb AW
 have HRG:Hid (World.rangeAt V1 tb 0 [.int .i64 k1t,.int .i64 r1t,.int .i64 x1t,.int .i64 y1t,.int .i64 z1t,.slice o1t L1t.length c1t,.int .i64 k2t,.int .i64 r2t,.int .i64 x2t,.int .i64 y2t,.int .i64 z2t,.slice o2t L2t.length c2t,.int .i64 p0t,.int .i64 p1t,.int .i64 p2t,.int .i64 p3t,.int .i64 p4t,.int .i64 p5t,.int .i64 p6t,.int .i64 q0t,.int .i64 q1t,.int .i64 q2t,.int .i64 q3t,.int .i64 q4t,.int .i64 q5t,.int .i64 q6t,.int .i64 nrt,.int .i64 wxt,.int .i64 wyt,.int .i64 wzt]):=fun j v e=>by rw [Nat.zero_add];exact (CelW.cel CF.out) j v e
 go_wp2_with (refine wpList_load_mid rfl 33 _ rfl tb 0 rfl _ _ HRG.out Tryz.underlying33 rfl (by kernel_rfl) ?_)
 refine Calls.mono (HC1.out _ HS.out.below) ?_
 rintro e V2 ⟨a,b,av1,av2,av3,bv1,bv2,bv3,rfl,HLI,hNa,hNb,hRa,hRb,HFR⟩
 obtain ⟨hl1,hl2,hl3,hl4,hl5,hl6,hb⟩:=HLI.out
 obtain ⟨ao1,ac1,rfl,_⟩:=hl1.form
 obtain ⟨ao2,ac2,rfl,_⟩:=hl2.form
 obtain ⟨ao3,ac3,rfl,_⟩:=hl3.form
 obtain ⟨bo1,bc1,rfl,_⟩:=hl4.form
 obtain ⟨bo2,bc2,rfl,_⟩:=hl5.form
 obtain ⟨bo3,bc3,rfl,_⟩:=hl6.form
 obtain ⟨hf1,hf2,hf3,hf4,hf5,hf6⟩:=HFR.out
 have hn9:=HS.out.hn
 have HS:Hid _:=(((((((HS.out.step hb).lay hl6 (hf6.le hn9)).lay hl5 (hf5.le hn9)).lay hl4 (hf4.le hn9)).lay hl3 (hf3.le hn9)).lay hl2 (hf2.le hn9)).lay hl1 (hf1.le hn9))
 have CF:Hid (CelW _ _ _):=CF.out.step hb
 have CV:Hid (CelW _ _ _):=CV.out.step hb
 clear HLI hl1 hl2 hl3 hl4 hl5 hl6 hb HC1 HRG HFR hf1 hf2 hf3 hf4 hf5 hf6 hn9
 obtain ⟨V2x,hX⟩:∃ V,V = (V2.alloc (.cells #[.slice ao1 a.P.length ac1,.slice ao2 a.A.length ac2,.slice ao3 a.E.length ac3,.int .i64 a.r] 36)).alloc (.cells #[.slice bo1 b.P.length bc1,.slice bo2 b.A.length bc2,.slice bo3 b.E.length bc3,.int .i64 b.r] 36):=⟨_,rfl⟩
 obtain ⟨ab,hab⟩:∃ b,b = V2.heap.size:=⟨_,rfl⟩
 obtain ⟨bb,hbb⟩:∃ b,b = V2.heap.size + 1:=⟨_,rfl⟩
 have hbx:Below V2.heap.size V2 V2x:=by rw [hX];exact b_step (n_after _ _) (n_after _ _)
 have n2:=Cel.new (V2.alloc (.cells #[.slice ao1 a.P.length ac1,.slice ao2 a.A.length ac2,.slice ao3 a.E.length ac3,.int .i64 a.r] 36)) [.slice bo1 b.P.length bc1,.slice bo2 b.A.length bc2,.slice bo3 b.E.length bc3,.int .i64 b.r] 36
 rw [World.size_alloc] at n2
 have m1:Cel V2x ab [.slice ao1 a.P.length ac1,.slice ao2 a.A.length ac2,.slice ao3 a.E.length ac3,.int .i64 a.r]:=by rw [hX,hab];exact (Cel.new _ [.slice ao1 a.P.length ac1,.slice ao2 a.A.length ac2,.slice ao3 a.E.length ac3,.int .i64 a.r] _).step (n_after _ _)
 have m2:Cel V2x bb [.slice bo1 b.P.length bc1,.slice bo2 b.A.length bc2,.slice bo3 b.E.length bc3,.int .i64 b.r]:=by rw [hX,hbb];exact n2
 have hn9:=HS.out.hn
 have HS:Hid _:=((HS.out.step hbx).add m2 (by omega)).add m1 (by omega)
 have CF:Hid (CelW _ _ _):=CF.out.step hbx
 have CV:Hid (CelW _ _ _):=CV.out.step hbx
 clear n2 m1 m2 hn9
 go_upto_region 3 with fail
 rw [<- hX,<- hbb,<- hab]
 clear hX hab hbb hbx
 have HAb:Hid (Cel V2x ab [.slice ao1 a.P.length ac1,.slice ao2 a.A.length ac2,.slice ao3 a.E.length ac3,.int .i64 a.r]):=HS.out.bx _ ms
 have HBb:Hid (Cel V2x bb [.slice bo1 b.P.length bc1,.slice bo2 b.A.length bc2,.slice bo3 b.E.length bc3,.int .i64 b.r]):=HS.out.bx _ (mc (ms))
 have xa2:=HAb.out 2 _ rfl
 have xb2:=HBb.out 2 _ rfl
 by_cases ha16:(16:Int) < (a.E.length:Int)
 ·go_wp2_with (fail)
  go_ret
  exact ⟨rfl,HS.out.below⟩
 by_cases hb16:(16:Int) < (b.E.length:Int)
 ·go_wp2_with (fail)
  go_ret
  exact ⟨rfl,HS.out.below⟩
 obtain ⟨X,hX⟩:∃ V,V = V2x:=⟨_,rfl⟩
 have fa1:=(may_facts hNa.1).1
 have fb1:=(may_facts hNb.1).1
 have hla:=HS.out.lz (.slice ao1 a.P.length ac1,a.P) ms
 obtain ⟨o',cap',e',_,_,hcl⟩:=hla.form
 cases e'
 obtain ⟨ge,fe,rfl,_⟩:=hcl 0 fa1
 have hlb:=HS.out.lz (.slice bo1 b.P.length bc1,b.P) (mc (mc (mc (ms))))
 obtain ⟨o',cap',e',_,_,hcl⟩:=hlb.form
 cases e'
 obtain ⟨gh,fh,rfl,_⟩:=hcl 0 fb1
 have HNA:Hid (mayN a/\mayN b):=⟨hNa,hNb⟩
 have HRR:Hid ((1 <= a.r/\a.r <= 16384)/\(1 <= b.r/\b.r <= 16384)):=⟨hRa,hRb⟩
 clear hNa hNb hRa hRb hla hlb hcl fa1 fb1
 obtain ⟨v0,vf0⟩:=CV.out 0 _ rfl
 obtain ⟨v1,vf1⟩:=CV.out 1 _ rfl
 obtain ⟨v2,vf2⟩:=CV.out 2 _ rfl
 go_upto_region 5 with fail
 clear xa2 xb2 ha16 hb16 HAb HBb
 go_cut [2,4,7,8,9] from 0 to 54 (fun s2 s4 s7 s8 s9 wx=>s2 = .int .i64 mo/\s4 = .pointer (some ⟨vb,0,none⟩)/\s7 = .bool true/\s8 = .pointer (some ⟨ab,0,none⟩)/\s9 = .pointer (some ⟨bb,0,none⟩)/\∃ w8,wx = set3 w8 vb ux uy uz/\Hid (Below V2x.heap.size V2x w8))
 case first =>
  refine RV.rs [.some (.pointer (some ⟨vb,0,none⟩)),.some (.int .i64 vx),.some (.int .i64 ex),.some (.int .i64 ux),.some (.pointer (some ⟨vb,1,none⟩)),.some (.int .i64 vy),.some (.int .i64 ey),.some (.int .i64 uy),.some (.pointer (some ⟨vb,2,none⟩)),.some (.int .i64 vz),.some (.int .i64 ez),.some (.int .i64 uz),.some (.agg #[.int .i64 ux,.int .i64 uy,.int .i64 uz]),none] [43,44,45,46,47,48,49,50,51,52,53,54,55,0] [(4,.pointer (some ⟨vb,0,none⟩))] (fun γ L w9=>(L 13 = false/\Below V2x.heap.size V2x w9) \/ (L 13 = true/\∃ w,Below V2x.heap.size V2x w/\w9 = (((w.setCell ⟨vb,0,none⟩ (.int .i64 ux)).setCell ⟨vb,1,none⟩ (.int .i64 uy)).setCell ⟨vb,2,none⟩ (.int .i64 uz)))) ⟨rfl,trivial⟩ ?_ ?_ ?_
  ·exact Or.inl ⟨rfl,(Below.refl _ V2x).drew⟩
  ·intro D WA Z hD hWA hZ T
   simp only [RV.Outs,RV.Slots,Nat.reduceAdd] at T
   iterate 2 first
    | (refine RV.cc _ (RV.pu T (fun γ v L w hl h=>by rw [RV.mn (L:=L) (i:=_) (j:=13) (by decide)];exact h) (fun γ L a w hH hl h9 k9=>⟨_,?_,rfl⟩)) ?_;· simp [execOp,go_sem,h9])
    | (refine RV.cc _ (RV.pu T (fun γ v L w hl h=>by rw [RV.mn (L:=L) (i:=_) (j:=13) (by decide)];exact h) (fun γ L a w hH hl h9 k9=>⟨_,?_,rfl⟩)) ?_;· have hB9:=early9 hH.glob (RV.ny hH (RV.wt (j:=13) hWA (by kernel_rfl)) hl);have q0:=c_after hB9 v0;simp [Region.binds] at k9;simp [execOp,go_sem,h9,k9,q0])
   refine RV.cc _ (RV.dc (fun γ L a w hH hl hA=>by have h9:=T γ L a w hH;have k9:=hA;simp [Region.binds] at k9;have hB9:=early9 hH.glob (RV.ny hH (RV.wt (j:=13) (i:=2) hWA (by kernel_rfl)) hl);exact ⟨7,#[.int .i64 vx,.int .i64 262144],by simp [go_sem,h9,k9],Calls.mono (HVx.out w) (by rintro e w2 ⟨rfl,hb⟩;exact ⟨_,rfl,rfl,fun j v _ h=>h.keep _,Or.inl ⟨by rw [RV.mn (L:=L) (i:=2) (j:=13) (by decide)];exact RV.ny hH (RV.wt (j:=13) (i:=2) hWA (by kernel_rfl)) hl,hB9.trans (hb.mono hB9.size)⟩⟩)⟩)) ?_
   iterate 3 first
    | (refine RV.cc _ (RV.pu T (fun γ v L w hl h=>by rw [RV.mn (L:=L) (i:=_) (j:=13) (by decide)];exact h) (fun γ L a w hH hl h9 k9=>⟨_,?_,rfl⟩)) ?_;· simp [execOp,go_sem,h9])
    | (refine RV.cc _ (RV.pu T (fun γ v L w hl h=>by rw [RV.mn (L:=L) (i:=_) (j:=13) (by decide)];exact h) (fun γ L a w hH hl h9 k9=>⟨_,?_,rfl⟩)) ?_;· simp [Region.binds] at k9;simp [execOp,go_sem,h9,k9,w_ux])
    | (refine RV.cc _ (RV.pu T (fun γ v L w hl h=>by rw [RV.mn (L:=L) (i:=_) (j:=13) (by decide)];exact h) (fun γ L a w hH hl h9 k9=>⟨_,?_,rfl⟩)) ?_;· have hB9:=early9 hH.glob (RV.ny hH (RV.wt (j:=13) hWA (by kernel_rfl)) hl);have q0:=c_after hB9 v1;simp [Region.binds] at k9;simp [execOp,go_sem,h9,k9,q0])
   refine RV.cc _ (RV.dc (fun γ L a w hH hl hA=>by have h9:=T γ L a w hH;have k9:=hA;simp [Region.binds] at k9;have hB9:=early9 hH.glob (RV.ny hH (RV.wt (j:=13) (i:=6) hWA (by kernel_rfl)) hl);exact ⟨7,#[.int .i64 vy,.int .i64 262144],by simp [go_sem,h9,k9],Calls.mono (HVy.out w) (by rintro e w2 ⟨rfl,hb⟩;exact ⟨_,rfl,rfl,fun j v _ h=>h.keep _,Or.inl ⟨by rw [RV.mn (L:=L) (i:=6) (j:=13) (by decide)];exact RV.ny hH (RV.wt (j:=13) (i:=6) hWA (by kernel_rfl)) hl,hB9.trans (hb.mono hB9.size)⟩⟩)⟩)) ?_
   iterate 3 first
    | (refine RV.cc _ (RV.pu T (fun γ v L w hl h=>by rw [RV.mn (L:=L) (i:=_) (j:=13) (by decide)];exact h) (fun γ L a w hH hl h9 k9=>⟨_,?_,rfl⟩)) ?_;· simp [execOp,go_sem,h9])
    | (refine RV.cc _ (RV.pu T (fun γ v L w hl h=>by rw [RV.mn (L:=L) (i:=_) (j:=13) (by decide)];exact h) (fun γ L a w hH hl h9 k9=>⟨_,?_,rfl⟩)) ?_;· simp [Region.binds] at k9;simp [execOp,go_sem,h9,k9,w_uy])
    | (refine RV.cc _ (RV.pu T (fun γ v L w hl h=>by rw [RV.mn (L:=L) (i:=_) (j:=13) (by decide)];exact h) (fun γ L a w hH hl h9 k9=>⟨_,?_,rfl⟩)) ?_;· have hB9:=early9 hH.glob (RV.ny hH (RV.wt (j:=13) hWA (by kernel_rfl)) hl);have q0:=c_after hB9 v2;simp [Region.binds] at k9;simp [execOp,go_sem,h9,k9,q0])
   refine RV.cc _ (RV.dc (fun γ L a w hH hl hA=>by have h9:=T γ L a w hH;have k9:=hA;simp [Region.binds] at k9;have hB9:=early9 hH.glob (RV.ny hH (RV.wt (j:=13) (i:=10) hWA (by kernel_rfl)) hl);exact ⟨7,#[.int .i64 vz,.int .i64 262144],by simp [go_sem,h9,k9],Calls.mono (HVz.out w) (by rintro e w2 ⟨rfl,hb⟩;exact ⟨_,rfl,rfl,fun j v _ h=>h.keep _,Or.inl ⟨by rw [RV.mn (L:=L) (i:=10) (j:=13) (by decide)];exact RV.ny hH (RV.wt (j:=13) (i:=10) hWA (by kernel_rfl)) hl,hB9.trans (hb.mono hB9.size)⟩⟩)⟩)) ?_
   iterate 2 (refine RV.cc _ (RV.pu T (fun γ v L w hl h=>by rw [RV.mn (L:=L) (i:=_) (j:=13) (by decide)];exact h) (fun γ L a w hH hl h9 k9=>⟨_,?_,rfl⟩)) ?_;· simp [Region.binds] at k9;simp [execOp,go_sem,h9,k9,w_uz])
   refine RV.cc _ (RV.does_store (fun γ L a w hH hl hA=>by have h9:=T γ L a w hH;have k9:=hA;simp [Region.binds] at k9;have hB9:=early9 hH.glob hl;have z0:=c_after hB9 v0;have zf0:=f_after hB9 v0 vf0;have z1:=c_after hB9 v1;have zf1:=f_after hB9 v1 vf1;have z2:=c_after hB9 v2;have zf2:=f_after hB9 v2 vf2;exact ⟨(((w.setCell ⟨vb,0,none⟩ (.int .i64 ux)).setCell ⟨vb,1,none⟩ (.int .i64 uy)).setCell ⟨vb,2,none⟩ (.int .i64 uz)),by simp [execOp,go_sem,z0,zf0,z1,zf1,z2,zf2,h9,k9],trivial,fun j v _ h=>h.keep _,Or.inr ⟨RV.more_self,w,hB9,rfl⟩⟩)) ?_
   exact RV.AllDo.nil
  ·intro γ w5 L9 hL hI9 hG9
   obtain ⟨w8,hb8,rfl⟩:=late9 hG9 (hL 13 (by decide))
   clear hL hI9 hG9
   simp only [RV.putL,Act.put,List.setIfInBounds_toArray,List.set_cons_zero,List.set_cons_succ]
   have HZ:Hid _:=hb8
   go_wp2_with (fail)
   go_meet
   case rel=>exact ⟨rfl,rfl,rfl,rfl,rfl,w8,rfl,HZ⟩
 case rest =>
  obtain ⟨rfl,rfl,rfl,rfl,rfl,w8,e8,HZ⟩:=hcut
  rw [e8]
  obtain ⟨Z,hZ⟩:∃ V,V = set3 w8 vb ux uy uz:=⟨_,rfl⟩
  have HS:Hid _:=(HS.out.step HZ.out).put (Or.inr rfl) ux uy uz
  have CW:Hid (Cel Z vb [.int .i64 ux,.int .i64 uy,.int .i64 uz]):=by show Cel _ _ _;rw [hZ];unfold set3;exact CelW.cel ((((CelW.step CV.out HZ.out).set 0 (.int .i64 ux) (by simp)).set 1 (.int .i64 uy) (by simp)).set 2 (.int .i64 uz) (by simp))
  rw [<- hZ] at HS ⊢
  clear hZ HZ e8 CV CF v0 v1 v2 vf0 vf1 vf2 hX
  have HAb:Hid (Cel Z ab [.slice (some ⟨ge,fe,none⟩) a.P.length ac1,.slice ao2 a.A.length ac2,.slice ao3 a.E.length ac3,.int .i64 a.r]):=HS.out.bx _ ms
  have HBb:Hid (Cel Z bb [.slice (some ⟨gh,fh,none⟩) b.P.length bc1,.slice bo2 b.A.length bc2,.slice bo3 b.E.length bc3,.int .i64 b.r]):=HS.out.bx _ (mc (ms))
  have HLA:Hid (Lies Z (.slice (some ⟨ge,fe,none⟩) a.P.length ac1) a.P/\Lies Z (.slice ao2 a.A.length ac2) a.A/\Lies Z (.slice ao3 a.E.length ac3) a.E):=⟨HS.out.lz _ ms,HS.out.lz _ (mc (ms)),HS.out.lz _ (mc (mc (ms)))⟩
  have HLB:Hid (Lies Z (.slice (some ⟨gh,fh,none⟩) b.P.length bc1) b.P/\Lies Z (.slice bo2 b.A.length bc2) b.A/\Lies Z (.slice bo3 b.E.length bc3) b.E):=⟨HS.out.lz _ (mc (mc (mc (ms)))),HS.out.lz _ (mc (mc (mc (mc (ms))))),HS.out.lz _ (mc (mc (mc (mc (mc (ms))))))⟩
  have HB:Hid _:=HS.out.below
  clear HS
  have hCB:=free_cast HNA.out.1 HNA.out.2 HUB.out
  have HCS:Hid _:=wcast_any a ⟨ux,uy,uz⟩ b _ _ _ _ _ _ Z HLA.out.1 HLA.out.2.1 HLA.out.2.2 HLB.out.1 HLB.out.2.1 HLB.out.2.2
  rw [hCB] at HCS
  have hneg:=fun h=>cast_neg (a:=a) (b:=b) (w:=⟨ux,uy,uz⟩) hCB h
  have eap:apP a b = told a b:=by unfold apP;rw [HNA.out.1.1,HNA.out.2.1];rfl
  rw [eap] at hneg
  have hpos:=fun h=>free_facts (m:=mN) hCB HUB.out (by have:=HRR.out;omega) HNA.out.1 HNA.out.2 h HMM.out
  have h16:=cast16 a ⟨ux,uy,uz⟩ b
  obtain ⟨kN,hkN⟩:∃ x,(castR a ⟨ux,uy,uz⟩ b).1 = x:=⟨_,rfl⟩
  obtain ⟨⟨⟨ax,ay,az⟩,ag⟩,hag⟩:∃ x,(castR a ⟨ux,uy,uz⟩ b).2 = x:=⟨_,rfl⟩
  have ecr:castR a ⟨ux,uy,uz⟩ b = (kN,(⟨ax,ay,az⟩,ag)):=by rw [<- hkN,<- hag]
  rw [ecr] at HCS hneg hpos h16
  obtain ⟨kc,hkc⟩:∃ x:Int,(kN:Int) = x:=⟨_,rfl⟩
  dsimp only at HCS hneg hpos h16
  rw [hkc] at HCS hpos
  unfold coreA apV Pt.v at HCS
  dsimp only at HCS
  have HKC:Hid ((kN:Int) = kc/\0 <= kc/\kc <= 16):=by show _/\_;omega
  have HNG:Hid _:=hneg
  have HPS:Hid _:=hpos
  clear hneg hpos hkc ecr hag hkN h16 eap hCB
  have x0:=HAb.out 0 _ rfl
  have x1:=HAb.out 1 _ rfl
  have x2:=HAb.out 2 _ rfl
  have x3:=HAb.out 3 _ rfl
  have y0:=HBb.out 0 _ rfl
  have y1:=HBb.out 1 _ rfl
  have y2:=HBb.out 2 _ rfl
  have y3:=HBb.out 3 _ rfl
  have z0:=CW.out 0 _ rfl
  have z1:=CW.out 1 _ rfl
  have z2:=CW.out 2 _ rfl
  go_wp2_with (fail)
  refine Calls.mono HCS.out ?_
  rintro e Q1 ⟨rfl,hb⟩
  obtain ⟨Q2,hQ2⟩:∃ V,V = Q1.alloc (.cells #[.int .i64 ax,.int .i64 ay,.int .i64 az,.int .i64 ag] 41):=⟨_,rfl⟩
  obtain ⟨xb,hxb⟩:∃ b,b = Q1.heap.size:=⟨_,rfl⟩
  have hb2:Below Q1.heap.size Q1 Q2:=by rw [hQ2];exact n_after _ _
  have CX:Hid (Cel Q2 xb [.int .i64 ax,.int .i64 ay,.int .i64 az,.int .i64 ag]):=by show Cel _ _ _;rw [hQ2,hxb];exact Cel.new _ [.int .i64 ax,.int .i64 ay,.int .i64 az,.int .i64 ag] _
  have hbb:=b_step hb hb2
  have HAb:Hid (Cel _ _ _):=HAb.out.step hbb
  have HBb:Hid (Cel _ _ _):=HBb.out.step hbb
  have CW:Hid (Cel _ _ _):=CW.out.step hbb
  have HLA:Hid (Lies Q2 (.slice (some ⟨ge,fe,none⟩) a.P.length ac1) a.P/\Lies Q2 (.slice ao2 a.A.length ac2) a.A/\Lies Q2 (.slice ao3 a.E.length ac3) a.E):=⟨HLA.out.1.below hbb,HLA.out.2.1.below hbb,HLA.out.2.2.below hbb⟩
  have HLB:Hid (Lies Q2 (.slice (some ⟨gh,fh,none⟩) b.P.length bc1) b.P/\Lies Q2 (.slice bo2 b.A.length bc2) b.A/\Lies Q2 (.slice bo3 b.E.length bc3) b.E):=⟨HLB.out.1.below hbb,HLB.out.2.1.below hbb,HLB.out.2.2.below hbb⟩
  have HB:Hid (Below w0.heap.size w0 Q2):=b_step HB.out hbb
  clear HCS hb hbb x0 x1 x2 x3 y0 y1 y2 y3 z0 z1 z2
  go_upto_region 7 with fail
  rw [<- hQ2,<- hxb]
  clear hQ2 hxb hb2
  have hk0:¬ kc < 0:=by have:=HKC.out;omega
  have hk16:¬ (16:Int) < kc:=by have:=HKC.out;omega
  have c3:=CX.out 3 _ rfl
  by_cases hng:ag < 0
  ·obtain ⟨h1,h2⟩:=Prod.mk.inj (HNG.out hng)
   have hk9:kc = 0:=by have:=HKC.out;omega
   subst hk9
   have HA9:Hid _:=fun (w':World) (h:Below Q2.heap.size Q2 w')=>apart_told a b (.slice (some ⟨ge,fe,none⟩) a.P.length ac1) (.slice ao2 a.A.length ac2) (.slice ao3 a.E.length ac3) (.slice (some ⟨gh,fh,none⟩) b.P.length bc1) (.slice bo2 b.A.length bc2) (.slice bo3 b.E.length bc3) w' HNA.out.1.1 HNA.out.2.1 (HLA.out.1.below h) (HLA.out.2.1.below h) (HLA.out.2.2.below h) (HLB.out.1.below h) (HLB.out.2.1.below h) (HLB.out.2.2.below h)
   rw [<- h2] at HA9
   dsimp only at HA9
   clear h1 h2 HNG HPS HKC HPM HNA HRR HLA HLB HUB HMM
   have x0:=HAb.out 0 _ rfl
   have x1:=HAb.out 1 _ rfl
   have x2:=HAb.out 2 _ rfl
   have x3:=HAb.out 3 _ rfl
   have y0:=HBb.out 0 _ rfl
   have y1:=HBb.out 1 _ rfl
   have y2:=HBb.out 2 _ rfl
   have y3:=HBb.out 3 _ rfl
   go_upto_region 10 with fail
   go_wp2_with (fail)
   refine Calls.mono (HA9.out _ (Below.refl _ _)) ?_
   rintro e Q3 ⟨rfl,hb⟩
   obtain ⟨Q4,hQ4⟩:∃ V,V = Q3.alloc (.cells #[.int .i64 ax,.int .i64 ay,.int .i64 az,.int .i64 ag] 41):=⟨_,rfl⟩
   obtain ⟨yb,hyb⟩:∃ b,b = Q3.heap.size:=⟨_,rfl⟩
   have hb2:Below Q3.heap.size Q3 Q4:=by rw [hQ4];exact n_after _ _
   have CY:Hid (Cel Q4 yb [.int .i64 ax,.int .i64 ay,.int .i64 az,.int .i64 ag]):=by show Cel _ _ _;rw [hQ4,hyb];exact Cel.new _ [.int .i64 ax,.int .i64 ay,.int .i64 az,.int .i64 ag] _
   have CX:Hid (Cel _ _ _):=CX.out.step (b_step hb hb2)
   have HB:Hid (Below w0.heap.size w0 Q4):=b_step HB.out (b_step hb hb2)
   clear hb x0 x1 x2 x3 y0 y1 y2 y3 c3 HA9
   go_upto_region 11 with fail
   rw [<- hQ4,<- hyb]
   clear hQ4 hyb hb2
   have x0:=CX.out 0 _ rfl
   have x1:=CX.out 1 _ rfl
   have x2:=CX.out 2 _ rfl
   have x3:=CX.out 3 _ rfl
   have y0:=CY.out 0 _ rfl
   have y1:=CY.out 1 _ rfl
   have y2:=CY.out 2 _ rfl
   have y3:=CY.out 3 _ rfl
   go_wp2_with (fail)
   go_ret
   exact ⟨rfl,HB.out⟩
  ·obtain ⟨hin,hdn,hS,hG,hE,hM,hwb,hall⟩:=HPS.out (by omega)
   have hSz:=rsizes9_any ⟨ax,ay,az⟩
   have edn:dnT ⟨ax,ay,az⟩ = dn ⟨ax,ay,az⟩:=by unfold dnT;rw [inB_mono hin (show (1048576:Int) <= 16777216 by decide)];rfl
   rw [edn] at hSz
   obtain ⟨fN,hfN⟩:∃ x,dn ⟨ax,ay,az⟩ = x:=⟨_,rfl⟩
   obtain ⟨uN,huN⟩:∃ x,upT ⟨ax,ay,az⟩ = x:=⟨_,rfl⟩
   rw [hfN] at hSz hG hall
   rw [huN] at hSz
   unfold Pt.v at hSz
   dsimp only at hSz
   have HSZ:Hid _:=hSz
   obtain ⟨s1,hs1⟩:∃ x,ag + a.r = x:=⟨_,rfl⟩
   obtain ⟨s2,hs2⟩:∃ x,s1 + b.r = x:=⟨_,rfl⟩
   rw [hs1,hs2] at hS hG hall
   obtain ⟨gG,hgG⟩:∃ x,s2 * fN = x:=⟨_,rfl⟩
   rw [hgG] at hG hall
   have w_s1:IntKind.i64.wrap (ag + a.r) = s1:=by rw [hs1,IntKind.wrap_i64];have:=HRR.out;omega
   have w_s2:IntKind.i64.wrap (s1 + b.r) = s2:=by rw [hs2,IntKind.wrap_i64];omega
   have w_gG:IntKind.i64.wrap (s2 * fN) = gG:=by rw [hgG,IntKind.wrap_i64];omega
   have w_g2:IntKind.i64.wrap (1024 * gG) = 1024 * gG:=by rw [IntKind.wrap_i64];omega
   obtain ⟨⟨bx,by_,bz⟩,hby⟩:∃ x,wayBy ⟨ux,uy,uz⟩ kc = x:=⟨_,rfl⟩
   rw [hby] at hE hM hwb hall
   have hby2:=hby
   unfold wayBy at hby2
   simp only [Pt.mk.injEq] at hby2
   have hwb9:=hwb
   rw [Pt.inB_iff] at hwb9
   have hub9:=HUB.out
   rw [Pt.inB_iff] at hub9
   dsimp only at hwb9 hub9
   have hkc9:=HKC.out
   obtain ⟨tx,htx⟩:∃ x,ux * kc = x:=⟨_,rfl⟩
   have hmx:=mul_in (a:=ux) (b:=kc) (A:=131072) (B:=16) (by omega) (by omega)
   rw [htx] at hmx hby2
   have w_tx:IntKind.i64.wrap (ux * kc) = tx:=by rw [htx,IntKind.wrap_i64];omega
   have w_bx:IntKind.i64.wrap (tx.tdiv 16) = bx:=by rw [hby2.1,IntKind.wrap_i64];omega
   clear htx hmx
   obtain ⟨ty,hty⟩:∃ x,uy * kc = x:=⟨_,rfl⟩
   have hmy:=mul_in (a:=uy) (b:=kc) (A:=131072) (B:=16) (by omega) (by omega)
   rw [hty] at hmy hby2
   have w_ty:IntKind.i64.wrap (uy * kc) = ty:=by rw [hty,IntKind.wrap_i64];omega
   have w_by:IntKind.i64.wrap (ty.tdiv 16) = by_:=by rw [hby2.2.1,IntKind.wrap_i64];omega
   clear hty hmy
   obtain ⟨tz,htz⟩:∃ x,uz * kc = x:=⟨_,rfl⟩
   have hmz:=mul_in (a:=uz) (b:=kc) (A:=131072) (B:=16) (by omega) (by omega)
   rw [htz] at hmz hby2
   have w_tz:IntKind.i64.wrap (uz * kc) = tz:=by rw [htz,IntKind.wrap_i64];omega
   have w_bz:IntKind.i64.wrap (tz.tdiv 16) = bz:=by rw [hby2.2.2,IntKind.wrap_i64];omega
   clear htz hmz
   obtain ⟨nE,hnE⟩:∃ x,Pt.dot ⟨ax,ay,az⟩ ⟨bx,by_,bz⟩ = x:=⟨_,rfl⟩
   rw [hnE] at hE hM hall
   obtain ⟨mE,hmE⟩:∃ x,mN * nE = x:=⟨_,rfl⟩
   rw [hmE] at hM hall
   have w_mE:IntKind.i64.wrap (mN * nE) = mE:=by rw [hmE,IntKind.wrap_i64];omega
   have HDE:Hid _:=fun W=>nrdot_any ⟨ax,ay,az⟩ ⟨bx,by_,bz⟩ W (inB_mono hin (by decide)) (inB_mono hwb (by decide))
   rw [hnE] at HDE
   unfold Pt.v at HDE
   dsimp only at HDE
   have HDP:Hid _:=fun (p q:Pt) (W:World) (hp:p.inB 536870912 = true)=>nrdot_any ⟨ax,ay,az⟩ p W (inB_mono hin (by decide)) hp
   have HMV:Hid _:=fun (w':World) (h:Below Q2.heap.size Q2 w')=>moved_any ⟨bx,by_,bz⟩ a.P a.A a.E a.r _ _ _ w' (HLA.out.1.below h) (HLA.out.2.1.below h) (HLA.out.2.2.below h) (by have:=HNA.out.1.2.1;omega) (by have:=may_len HNA.out.1.1;omega) (by have:=may_len HNA.out.1.1;omega)
   have hmm:=moved_may HNA.out.1 hwb
   obtain ⟨Pm,hPm⟩:∃ x,a.P.map (fun p=>p.plus ⟨bx,by_,bz⟩) = x:=⟨_,rfl⟩
   rw [hPm] at HMV hmm
   have hlo:=told_low hmm HNA.out.2.1
   have HA9:Hid _:=fun (v1 v2 v3:Value) (w':World) (h:Below Q2.heap.size Q2 w') (l1:Lies w' v1 Pm) (l2:Lies w' v2 a.A) (l3:Lies w' v3 a.E)=>apart_told ⟨Pm,a.A,a.E,a.r⟩ b v1 v2 v3 (.slice (some ⟨gh,fh,none⟩) b.P.length bc1) (.slice bo2 b.A.length bc2) (.slice bo3 b.E.length bc3) w' hmm HNA.out.2.1 l1 l2 l3 (HLB.out.1.below h) (HLB.out.2.1.below h) (HLB.out.2.2.below h)
   obtain ⟨⟨⟨dx,dy,dz⟩,dg⟩,hdg⟩:∃ x,told ⟨Pm,a.A,a.E,a.r⟩ b = x:=⟨_,rfl⟩
   rw [hdg] at HA9 hlo
   unfold coreV Pt.v at HMV
   dsimp only at HA9 HMV hlo
   have HALL:Hid _:=hall
   have HMB:Hid (-422212465065984 <= mE/\mE <= 422212465065984):=hM
   have HIN:Hid _:=hin
   clear hin hdn hS hG hE hM hwb hall hSz edn hfN huN hs1 hs2 hgG hby hby2 hwb9 hub9 hkc9 hnE hmE hmm hPm hdg HNG HPS HUB HMM HRR
   have x0:=CX.out 0 _ rfl
   have x1:=CX.out 1 _ rfl
   have x2:=CX.out 2 _ rfl
   have x3:=CX.out 3 _ rfl
   have y0:=HAb.out 0 _ rfl
   have y1:=HAb.out 1 _ rfl
   have y2:=HAb.out 2 _ rfl
   have y3:=HAb.out 3 _ rfl
   have z0:=HBb.out 0 _ rfl
   have z1:=HBb.out 1 _ rfl
   have z2:=HBb.out 2 _ rfl
   have z3:=HBb.out 3 _ rfl
   have t0:=CW.out 0 _ rfl
   have t1:=CW.out 1 _ rfl
   have t2:=CW.out 2 _ rfl
   go_upto_region 12 with fail
   go_wp2_with (fail)
   refine Calls.mono (HSZ.out _) ?_
   rintro e Q3 ⟨rfl,hb⟩
   have CX:Hid (Cel _ _ _):=CX.out.step hb
   have HAb:Hid (Cel _ _ _):=HAb.out.step hb
   have HBb:Hid (Cel _ _ _):=HBb.out.step hb
   have CW:Hid (Cel _ _ _):=CW.out.step hb
   have HB:Hid (Below w0.heap.size w0 Q3):=b_step HB.out hb
   have HQ:Hid (Below Q2.heap.size Q2 Q3):=hb
   clear hb HSZ c3 hk0 hk16 x0 x1 x2 x3 y0 y1 y2 y3 z0 z1 z2 z3 t0 t1 t2
   have x0:=CX.out 0 _ rfl
   have x1:=CX.out 1 _ rfl
   have x2:=CX.out 2 _ rfl
   have x3:=CX.out 3 _ rfl
   have y0:=HAb.out 0 _ rfl
   have y1:=HAb.out 1 _ rfl
   have y2:=HAb.out 2 _ rfl
   have y3:=HAb.out 3 _ rfl
   have z0:=HBb.out 0 _ rfl
   have z1:=HBb.out 1 _ rfl
   have z2:=HBb.out 2 _ rfl
   have z3:=HBb.out 3 _ rfl
   have t0:=CW.out 0 _ rfl
   have t1:=CW.out 1 _ rfl
   have t2:=CW.out 2 _ rfl
   go_upto_region 14 with fail
   try simp only [w_s1,w_s2,w_gG]
   clear w_s1 w_s2 w_gG
   go_wp2_with (fail)
   refine Calls.mono (HPM.out _) ?_
   rintro e Q4 ⟨rfl,hb⟩
   have CX:Hid (Cel _ _ _):=CX.out.step hb
   have HAb:Hid (Cel _ _ _):=HAb.out.step hb
   have HBb:Hid (Cel _ _ _):=HBb.out.step hb
   have CW:Hid (Cel _ _ _):=CW.out.step hb
   have HB:Hid (Below w0.heap.size w0 Q4):=b_step HB.out hb
   have HQ:Hid (Below Q2.heap.size Q2 Q4):=b_step HQ.out hb
   clear hb HPM x0 x1 x2 x3 y0 y1 y2 y3 z0 z1 z2 z3 t0 t1 t2
   have t0:=CW.out 0 _ rfl
   have t1:=CW.out 1 _ rfl
   have t2:=CW.out 2 _ rfl
   obtain ⟨Q5,hQ5⟩:∃ V,V = Q4.alloc (.cells #[.int .i64 bx,.int .i64 by_,.int .i64 bz] 23):=⟨_,rfl⟩
   obtain ⟨yb,hyb⟩:∃ b,b = Q4.heap.size:=⟨_,rfl⟩
   have hb5:Below Q4.heap.size Q4 Q5:=by rw [hQ5];exact n_after _ _
   have CB:Hid (Cel Q5 yb [.int .i64 bx,.int .i64 by_,.int .i64 bz]):=by show Cel _ _ _;rw [hQ5,hyb];exact Cel.new _ [.int .i64 bx,.int .i64 by_,.int .i64 bz] _
   have CX:Hid (Cel _ _ _):=CX.out.step hb5
   have HAb:Hid (Cel _ _ _):=HAb.out.step hb5
   have HBb:Hid (Cel _ _ _):=HBb.out.step hb5
   have HB:Hid (Below w0.heap.size w0 Q5):=b_step HB.out hb5
   have HQ:Hid (Below Q2.heap.size Q2 Q5):=b_step HQ.out hb5
   have HLA:Hid (Lies Q5 (.slice (some ⟨ge,fe,none⟩) a.P.length ac1) a.P/\Lies Q5 (.slice ao2 a.A.length ac2) a.A/\Lies Q5 (.slice ao3 a.E.length ac3) a.E):=⟨HLA.out.1.below HQ.out,HLA.out.2.1.below HQ.out,HLA.out.2.2.below HQ.out⟩
   have HLB:Hid (Lies Q5 (.slice (some ⟨gh,fh,none⟩) b.P.length bc1) b.P/\Lies Q5 (.slice bo2 b.A.length bc2) b.A/\Lies Q5 (.slice bo3 b.E.length bc3) b.E):=⟨HLB.out.1.below HQ.out,HLB.out.2.1.below HQ.out,HLB.out.2.2.below HQ.out⟩
   go_upto_region 16 with fail
   try simp only [w_tx,w_bx,w_ty,w_by,w_tz,w_bz]
   rw [<- hQ5,<- hyb]
   clear hQ5 hyb hb5 w_tx w_bx w_ty w_by w_tz w_bz t0 t1 t2 CW
   go_wp2_with (fail)
   go_loopg [20] a.P.length (fun gm s20 wr=>∃ i:Nat,i + gm = a.P.length/\s20 = .int .i64 (i:Int)/\Hid (Below Q5.heap.size Q5 wr))
   case atStart=>exact ⟨0,by omega,rfl,Below.refl _ _⟩
   case round =>
    obtain ⟨i,hi,rfl,HQr⟩:=hrel
    rcases Nat.eq_zero_or_pos gk with h0 | h0
    ·have hil:¬ (i:Int) < (a.P.length:Int):=by omega
     clear hi h0 HALL HDE HDP w_g2 w_mE
     obtain ⟨wz,hwz⟩:∃ V,V = wr:=⟨_,rfl⟩
     rw [<- hwz] at HQr
     have HBZ:Hid (Below w0.heap.size w0 wz):=b_step HB.out HQr.out
     have HQZ:Hid (Below Q2.heap.size Q2 wz):=b_step HQ.out HQr.out
     have hAz:Cel wz ab [.slice (some ⟨ge,fe,none⟩) a.P.length ac1,.slice ao2 a.A.length ac2,.slice ao3 a.E.length ac3,.int .i64 a.r]:=HAb.out.step HQr.out
     have hBz:Cel wz bb [.slice (some ⟨gh,fh,none⟩) b.P.length bc1,.slice bo2 b.A.length bc2,.slice bo3 b.E.length bc3,.int .i64 b.r]:=HBb.out.step HQr.out
     have hYz:Cel wz yb [.int .i64 bx,.int .i64 by_,.int .i64 bz]:=CB.out.step HQr.out
     have y0:=hAz 0 _ rfl
     have y1:=hAz 1 _ rfl
     have y2:=hAz 2 _ rfl
     have y3:=hAz 3 _ rfl
     have z0:=hBz 0 _ rfl
     have z1:=hBz 1 _ rfl
     have z2:=hBz 2 _ rfl
     have z3:=hBz 3 _ rfl
     have t0:=hYz 0 _ rfl
     have t1:=hYz 1 _ rfl
     have t2:=hYz 2 _ rfl
     clear hAz hBz hYz
     rw [hwz] at y0
     go_upto_region 25 with fail
     rw [<- hwz] at y0 ⊢
     clear hwz hil
     refine RV.rs [.some (.agg #[.slice (some ⟨ge,fe,none⟩) a.P.length ac1,.slice ao2 a.A.length ac2,.slice ao3 a.E.length ac3,.int .i64 a.r]),.some (.agg #[.int .i64 bx,.int .i64 by_,.int .i64 bz]),none,.some (.agg #[.slice (some ⟨gh,fh,none⟩) b.P.length bc1,.slice bo2 b.A.length bc2,.slice bo3 b.E.length bc3,.int .i64 b.r]),.some (.tuple #[.agg #[.int .i64 dx,.int .i64 dy,.int .i64 dz,.int .i64 dg],.bool true]),.some (.tuple #[.agg #[.int .i64 dx,.int .i64 dy,.int .i64 dz,.int .i64 dg],.bool true]),.some (.agg #[.int .i64 dx,.int .i64 dy,.int .i64 dz,.int .i64 dg]),.some (.bool true),none,none,.some (.bool true)] [169,170,171,172,173,168,174,175,24,0,25] [(8,.pointer (some ⟨ab,0,none⟩)),(19,.pointer (some ⟨yb,0,none⟩)),(9,.pointer (some ⟨bb,0,none⟩))] (fun γ L w=>MvG wz Pm a.A a.E a.r #[.int .i64 dx,.int .i64 dy,.int .i64 dz,.int .i64 dg] γ L w) ⟨rfl,rfl,rfl,trivial⟩ ⟨(Below.refl _ wz).drew,(fun e=>by cases e),RV.Pend.start rfl⟩ ?_ ?_
     ·intro D WA Z hD hWA hZ T
      simp only [RV.Outs,RV.Slots,Nat.reduceAdd] at T
      (refine RV.cc _ (RV.pu T (fun γ v L w hl h=>h.other _ (by decide) (by decide) (by decide) (by decide)) (fun γ L a w hH hl h9 k9=>⟨_,?_,rfl⟩)) ?_;· have q0:=c_after hH.glob.1 y0;have q1:=c_after hH.glob.1 y1;have q2:=c_after hH.glob.1 y2;have q3:=c_after hH.glob.1 y3;simp [execOp,go_sem,h9,q0,q1,q2,q3])
      (refine RV.cc _ (RV.pu T (fun γ v L w hl h=>h.other _ (by decide) (by decide) (by decide) (by decide)) (fun γ L a w hH hl h9 k9=>⟨_,?_,rfl⟩)) ?_;· have q0:=c_after hH.glob.1 t0;have q1:=c_after hH.glob.1 t1;have q2:=c_after hH.glob.1 t2;simp [execOp,go_sem,h9,q0,q1,q2])
      refine RV.cc _ (RV.dc (fun γ L a w hH hl hA=>by have h9:=T γ L a w hH;have k9:=hA;simp [Region.binds] at k9;exact ⟨_,_,by simp [go_sem,h9,k9],Calls.mono (HMV.out w (b_step HQZ.out hH.glob.1)) (by rintro e w2 ⟨vp,va,ve,rfl,hT⟩;exact ⟨_,rfl,trivial,fun j v _ h=>h.keep _,hH.glob.got hT⟩)⟩)) ?_
      (refine RV.cc _ (RV.pu T (fun γ v L w hl h=>h.other _ (by decide) (by decide) (by decide) (by decide)) (fun γ L a w hH hl h9 k9=>⟨_,?_,rfl⟩)) ?_;· have q0:=c_after hH.glob.1 z0;have q1:=c_after hH.glob.1 z1;have q2:=c_after hH.glob.1 z2;have q3:=c_after hH.glob.1 z3;simp [execOp,go_sem,h9,q0,q1,q2,q3])
      refine RV.cc _ (RV.dc (fun γ L a w hH hl hA=>by have h9:=T γ L a w hH;have k9:=hA;simp [Region.binds] at k9;have l2:L 2 = true:=hA ⟨2,.data⟩ (by simp) rfl;have e2:=hH.slot 2 170 (by rw [<- hD];rfl) l2;obtain ⟨vp,va,ve,g1,g2,g3,g4⟩:=hH.glob.2.1 l2 hl;rw [g1] at e2;exact ⟨_,_,by simp [go_sem,h9,k9,e2],Calls.mono (HA9.out vp va ve w (b_step HQZ.out hH.glob.1) g2 g3 g4) (by rintro e w2 ⟨rfl,hb⟩;exact ⟨_,rfl,rfl,fun j v _ h=>h.keep _,hH.glob.told hb _⟩)⟩)) ?_
      iterate 3 (refine RV.cc _ (RV.pu T (fun γ v L w hl h=>h.other _ (by decide) (by decide) (by decide) (by decide)) (fun γ L a w hH hl h9 k9=>⟨_,?_,rfl⟩)) ?_;· simp [Region.binds] at k9;simp [execOp,go_sem,h9,k9])
      refine RV.cc _ (RV.does_step (fun γ L a w hH hl hA=>by exact ⟨.pointer (some ⟨w.heap.size,0,none⟩),w.alloc (.cells #[.int .i64 0,.int .i64 0,.int .i64 0,.int .i64 0] 41),by simp [execOp,go_sem],trivial,fun j v _ h=>h.keep _,hH.glob.made (RV.ny hH (RV.wt (j:=9) (i:=8) hWA (by kernel_rfl)) hl) rfl⟩)) ?_
      refine RV.cc _ (RV.does_store (fun γ L a w hH hl hA=>by have h9:=T γ L a w hH;have k9:=hA;simp [Region.binds] at k9;have l0:L 8 = true:=hA ⟨8,.data⟩ (by simp) rfl;have l6:L 6 = true:=hA ⟨6,.data⟩ (by simp) rfl;have l5:L 5 = true:=hH.closed 6 5 (RV.wt hWA (by kernel_rfl)) l6;have l4:L 4 = true:=hH.closed 5 4 (RV.wt hWA (by kernel_rfl)) l5;have e0:=hH.slot 8 23 (by rw [<- hD];rfl) l0;obtain ⟨b,cs,hb1,hb2,hb3,hb4,_⟩:=hH.glob.2.2 l0;have hfl:=hH.glob.fill l4 hb1 hb2 hb3 hb4;rw [hb1] at e0;obtain ⟨u0,u1,u2,u3,rfl⟩:=arr4k hb4;have z09:w.cell? ⟨b,0,none⟩ = some u0:=(by simp [World.cell?,hb3]);have z19:w.cell? ⟨b,1,none⟩ = some u1:=(by simp [World.cell?,hb3]);have z29:w.cell? ⟨b,2,none⟩ = some u2:=(by simp [World.cell?,hb3]);have z39:w.cell? ⟨b,3,none⟩ = some u3:=(by simp [World.cell?,hb3]);have zf:∀ o,w.frozen? ⟨b,o,none⟩ = false:=fun o=>(by simp [World.frozen?,hb3]);exact ⟨_,by simp [execOp,go_sem,e0,h9,k9,z09,z19,z29,z39,zf];rfl,trivial,fun j v _ h=>h.keep _,hfl _⟩)) ?_
      (refine RV.cc _ (RV.pu T (fun γ v L w hl h=>h.other _ (by decide) (by decide) (by decide) (by decide)) (fun γ L a w hH hl h9 k9=>⟨_,?_,rfl⟩)) ?_;· simp [Region.binds] at k9;simp [execOp,go_sem,h9,k9])
      exact RV.AllDo.nil
     ·intro γ w5 L9 hL hI9 hG9
      obtain ⟨nb,cs,hb1,hb2,hb3,_,hb5⟩:=hG9.2.2 (hL 8 (by decide))
      rw [hb5 (hL 9 (by decide))] at hb3
      have HB5:Hid (Below w0.heap.size w0 w5):=b_step HBZ.out hG9.1
      simp only [RV.putL,Act.put,List.setIfInBounds_toArray,List.set_cons_zero,List.set_cons_succ,Nat.reduceAdd]
      rw [hb1]
      have c3:w5.cell? ⟨nb,3,none⟩ = some (.int .i64 dg):=by simp [World.cell?,hb3]
      clear hG9 hI9 hL hb1 hb2 hb3 hb5 y0 y1 y2 y3 z0 z1 z2 z3 t0 t1 t2
      go_wp2_with (fail)
      go_ret
      exact ⟨rfl,HB5.out⟩
    ·obtain ⟨gm,rfl⟩:∃ m,gk = m + 1:=⟨gk - 1,by omega⟩
     have hil:(i:Int) < (a.P.length:Int):=by omega
     have hAr:Cel wr ab [.slice (some ⟨ge,fe,none⟩) a.P.length ac1,.slice ao2 a.A.length ac2,.slice ao3 a.E.length ac3,.int .i64 a.r]:=HAb.out.step HQr.out
     have ya:=hAr 0 _ rfl
     clear hAr
     go_wp2_with (fail)
     go_loopg [21] b.P.length (fun gn s21 wx=>∃ j:Nat,j + gn = b.P.length/\s21 = .int .i64 (j:Int)/\Hid (Below Q5.heap.size Q5 wx))
     case atStart=>exact ⟨0,by omega,rfl,HQr⟩
     case round =>
      obtain ⟨j,hj,rfl,HQr⟩:=hrel
      obtain ⟨wz,hwz⟩:∃ V,V = wr:=⟨_,rfl⟩
      rw [<- hwz] at HQr
      have hBr:Cel wz bb [.slice (some ⟨gh,fh,none⟩) b.P.length bc1,.slice bo2 b.A.length bc2,.slice bo3 b.E.length bc3,.int .i64 b.r]:=HBb.out.step HQr.out
      have z0:=hBr 0 _ rfl
      clear ya
      rcases Nat.eq_zero_or_pos gk with h9 | h9
      ·have hjl:¬ (j:Int) < (b.P.length:Int):=by omega
       rw [hwz] at z0
       clear h9
       go_wp2_with (fail)
       go_roundg gm
       case rel=>exact ⟨i + 1,by omega,by go_num,by rw [<- hwz];exact HQr⟩
       omega
      ·obtain ⟨gn,rfl⟩:∃ m,gk = m + 1:=⟨gk - 1,by omega⟩
       have hjl:(j:Int) < (b.P.length:Int):=by omega
       have hin9:i < a.P.length:=by omega
       have hjn9:j < b.P.length:=by omega
       have hAr:Cel wz ab [.slice (some ⟨ge,fe,none⟩) a.P.length ac1,.slice ao2 a.A.length ac2,.slice ao3 a.E.length ac3,.int .i64 a.r]:=HAb.out.step HQr.out
       have hXr:Cel wz xb [.int .i64 ax,.int .i64 ay,.int .i64 az,.int .i64 ag]:=CX.out.step HQr.out
       have y0:=hAr 0 _ rfl
       have x0:=hXr 0 _ rfl
       have x1:=hXr 1 _ rfl
       have x2:=hXr 2 _ rfl
       obtain ⟨o9,c9,e9,_,_,hcl⟩:=(HLA.out.1.below HQr.out).form
       cases e9
       obtain ⟨g9,f9,e9,m0,m1,m2⟩:=hcl i hin9
       cases e9
       obtain ⟨o8,c8,e8,_,_,hcm⟩:=(HLB.out.1.below HQr.out).form
       cases e8
       obtain ⟨g8,f8,e8,n0,n1,n2⟩:=hcm j hjn9
       cases e8
       obtain ⟨hDb,hfin⟩:=HALL.out i j hin9 hjn9
       have hp1:=HNA.out.1.2.2 _ (pt_mem hin9)
       have hq1:=HNA.out.2.2.2 _ (pt_mem hjn9)
       obtain ⟨⟨px,py,pz⟩,hpe⟩:∃ x,pt a.P i = x:=⟨_,rfl⟩
       obtain ⟨⟨qx,qy,qz⟩,hqe⟩:∃ x,pt b.P j = x:=⟨_,rfl⟩
       rw [hpe] at m0 m1 m2 hDb hfin hp1
       rw [hqe] at n0 n1 n2 hDb hfin hq1
       dsimp only at m0 m1 m2 n0 n1 n2
       have hs9:(Pt.sub ⟨qx,qy,qz⟩ ⟨px,py,pz⟩).inB 536870912 = true:=by rw [Pt.inB_iff] at hp1 hq1 ⊢;unfold Pt.sub;dsimp only at *;omega
       have HMI:Hid _:=fun W=>nminus_any ⟨qx,qy,qz⟩ ⟨px,py,pz⟩ W (inB_mono hq1 (by decide)) (inB_mono hp1 (by decide))
       have HDO:Hid _:=fun W=>HDP.out (Pt.sub ⟨qx,qy,qz⟩ ⟨px,py,pz⟩) ⟨0,0,0⟩ W hs9
       obtain ⟨⟨dx9,dy9,dz9⟩,hds⟩:∃ x,Pt.sub ⟨qx,qy,qz⟩ ⟨px,py,pz⟩ = x:=⟨_,rfl⟩
       rw [hds] at HMI HDO hDb hfin
       obtain ⟨dD,hdD⟩:∃ x,Pt.dot ⟨ax,ay,az⟩ ⟨dx9,dy9,dz9⟩ = x:=⟨_,rfl⟩
       rw [hdD] at HDO hDb hfin
       unfold Pt.v at HMI HDO
       dsimp only at HMI HDO
       have hi9:(i:Int) < (a.P.length:Int):=hil
       have hj9:(j:Int) < (b.P.length:Int):=hjl
       have w_1:IntKind.i64.wrap (1024 * dD) = 1024 * dD:=by rw [IntKind.wrap_i64];omega
       have HWM:Hid (-422212465065984 <= mE/\mE <= 422212465065984):=HMB.out
       have w_2:IntKind.i64.wrap (1024 * dD - mE) = 1024 * dD - mE:=by rw [IntKind.wrap_i64];have:=HWM.out;omega
       have HF9:Hid _:=hfin
       clear hfin hDb hdD hds hs9 hp1 hq1 hpe hqe hcl hcm hAr hXr hBr h9
       rw [hwz] at z0
       go_upto_region 22 with fail
       rw [<- hwz] at z0 ⊢
       clear hwz
       go_cut [22] from 134 to 166 (fun s22 wx=>s22 = .int .i64 dD/\Hid (Below Q5.heap.size Q5 wx))
       case first =>
        refine RV.rs [.some (.pointer (some ⟨xb,0,none⟩)),.some (.agg #[.int .i64 ax,.int .i64 ay,.int .i64 az]),.some (.pointer (some ⟨bb,0,none⟩)),.some (.slice (some ⟨gh,fh,none⟩) b.P.length bc1),.some (.int .i64 (j:Int)),.some (.pointer (some ⟨gh,fh + j * 3,none⟩)),.some (.agg #[.int .i64 qx,.int .i64 qy,.int .i64 qz]),.some (.pointer (some ⟨ab,0,none⟩)),.some (.slice (some ⟨ge,fe,none⟩) a.P.length ac1),.some (.int .i64 (i:Int)),.some (.pointer (some ⟨ge,fe + i * 3,none⟩)),.some (.agg #[.int .i64 px,.int .i64 py,.int .i64 pz]),.some (.agg #[.int .i64 dx9,.int .i64 dy9,.int .i64 dz9]),.some (.int .i64 dD),.some (.int .i64 dD)] [142,143,144,145,146,147,148,149,150,151,152,153,154,155,23] [(11,.pointer (some ⟨xb,0,none⟩)),(9,.pointer (some ⟨bb,0,none⟩)),(8,.pointer (some ⟨ab,0,none⟩)),(21,.int .i64 (j:Int)),(20,.int .i64 (i:Int))] (fun γ L w=>Below wz.heap.size wz w) ⟨rfl,rfl,rfl,rfl,rfl,trivial⟩ (Below.refl _ wz).drew ?_ ?_
        ·intro D WA Z hD hWA hZ T
         simp only [RV.Outs,RV.Slots,Nat.reduceAdd] at T
         (refine RV.cc _ (RV.pu T (fun γ v L w hl h=>h) (fun γ L a w hH hl h9 k9=>⟨_,?_,rfl⟩)) ?_;· simp [execOp,go_sem,h9])
         (refine RV.cc _ (RV.pu T (fun γ v L w hl h=>h) (fun γ L a w hH hl h9 k9=>⟨_,?_,rfl⟩)) ?_;· have q0:=c_after hH.glob x0;have q1:=c_after hH.glob x1;have q2:=c_after hH.glob x2;simp [Region.binds] at k9;simp [execOp,go_sem,h9,k9,q0,q1,q2])
         (refine RV.cc _ (RV.pu T (fun γ v L w hl h=>h) (fun γ L a w hH hl h9 k9=>⟨_,?_,rfl⟩)) ?_;· simp [execOp,go_sem,h9])
         (refine RV.cc _ (RV.pu T (fun γ v L w hl h=>h) (fun γ L a w hH hl h9 k9=>⟨_,?_,rfl⟩)) ?_;· have q0:=c_after hH.glob z0;simp [Region.binds] at k9;simp [execOp,go_sem,h9,k9,q0])
         (refine RV.cc _ (RV.pu T (fun γ v L w hl h=>h) (fun γ L a w hH hl h9 k9=>⟨_,?_,rfl⟩)) ?_;· simp [execOp,go_sem,h9])
         (refine RV.cc _ (RV.pu T (fun γ v L w hl h=>h) (fun γ L a w hH hl h9 k9=>⟨_,?_,rfl⟩)) ?_;· simp [Region.binds] at k9;simp [execOp,go_sem,h9,k9,hj9])
         (refine RV.cc _ (RV.pu T (fun γ v L w hl h=>h) (fun γ L a w hH hl h9 k9=>⟨_,?_,rfl⟩)) ?_;· have q0:=c_after hH.glob n0;have q1:=c_after hH.glob n1;have q2:=c_after hH.glob n2;simp [Region.binds] at k9;simp [execOp,go_sem,h9,k9,q0,q1,q2])
         (refine RV.cc _ (RV.pu T (fun γ v L w hl h=>h) (fun γ L a w hH hl h9 k9=>⟨_,?_,rfl⟩)) ?_;· simp [execOp,go_sem,h9])
         (refine RV.cc _ (RV.pu T (fun γ v L w hl h=>h) (fun γ L a w hH hl h9 k9=>⟨_,?_,rfl⟩)) ?_;· have q0:=c_after hH.glob y0;simp [Region.binds] at k9;simp [execOp,go_sem,h9,k9,q0])
         (refine RV.cc _ (RV.pu T (fun γ v L w hl h=>h) (fun γ L a w hH hl h9 k9=>⟨_,?_,rfl⟩)) ?_;· simp [execOp,go_sem,h9])
         (refine RV.cc _ (RV.pu T (fun γ v L w hl h=>h) (fun γ L a w hH hl h9 k9=>⟨_,?_,rfl⟩)) ?_;· simp [Region.binds] at k9;simp [execOp,go_sem,h9,k9,hi9])
         (refine RV.cc _ (RV.pu T (fun γ v L w hl h=>h) (fun γ L a w hH hl h9 k9=>⟨_,?_,rfl⟩)) ?_;· have q0:=c_after hH.glob m0;have q1:=c_after hH.glob m1;have q2:=c_after hH.glob m2;simp [Region.binds] at k9;simp [execOp,go_sem,h9,k9,q0,q1,q2])
         refine RV.cc _ (RV.dc (fun γ L a w hH hl hA=>by have h9:=T γ L a w hH;have k9:=hA;simp [Region.binds] at k9;exact ⟨_,_,by simp [go_sem,h9,k9],Calls.mono (HMI.out w) (by rintro e w2 ⟨rfl,hb⟩;exact ⟨_,rfl,rfl,fun j v _ h=>h.keep _,b_step hH.glob hb⟩)⟩)) ?_
         refine RV.cc _ (RV.dc (fun γ L a w hH hl hA=>by have h9:=T γ L a w hH;have k9:=hA;simp [Region.binds] at k9;exact ⟨_,_,by simp [go_sem,h9,k9],Calls.mono (HDO.out w) (by rintro e w2 ⟨rfl,hb⟩;exact ⟨_,rfl,rfl,fun j v _ h=>h.keep _,b_step hH.glob hb⟩)⟩)) ?_
         (refine RV.cc _ (RV.pu T (fun γ v L w hl h=>h) (fun γ L a w hH hl h9 k9=>⟨_,?_,rfl⟩)) ?_;· simp [Region.binds] at k9;simp [execOp,go_sem,h9,k9])
         exact RV.AllDo.nil
        ·intro γ w5 L9 hL hI9 hG9
         have HB5:Hid (Below Q5.heap.size Q5 w5):=b_step HQr.out hG9
         simp only [RV.putL,Act.put,List.setIfInBounds_toArray,List.set_cons_zero,List.set_cons_succ]
         clear hG9 hI9 hL x0 x1 x2 y0 z0 n0 n1 n2 m0 m1 m2 HMI HDO
         go_wp2_with (fail)
         go_meet
         case rel=>exact ⟨rfl,HB5⟩
       case rest =>
        obtain ⟨rfl,HBQ⟩:=hcut
        have hXr:Cel wc xb [.int .i64 ax,.int .i64 ay,.int .i64 az,.int .i64 ag]:=CX.out.step HBQ.out
        have hYr:Cel wc yb [.int .i64 bx,.int .i64 by_,.int .i64 bz]:=CB.out.step HBQ.out
        have xx0:=hXr 0 _ rfl
        have xx1:=hXr 1 _ rfl
        have xx2:=hXr 2 _ rfl
        have yy0:=hYr 0 _ rfl
        have yy1:=hYr 1 _ rfl
        have yy2:=hYr 2 _ rfl
        have hfin:=HF9.out
        clear x0 x1 x2 y0 z0 n0 n1 n2 m0 m1 m2 HMI HDO HF9 hXr hYr
        go_wp2_with (fail)
        refine Calls.mono (HDE.out _) ?_
        rintro e w6 ⟨rfl,hb⟩
        have HBQ:Hid (Below Q5.heap.size Q5 w6):=b_step HBQ.out hb
        clear hb xx0 xx1 xx2 yy0 yy1 yy2
        go_wp2_with (fail)
        go_roundg gn
        case rel=>exact ⟨j + 1,by omega,by go_num,HBQ⟩
        omega
theorem lifted (os:Os) (started:os.Started) (H:Type) (enc:TypeId × Value->H) :
  ReturnsInHanded {} Tryz.checked os 3 .any (Rows.sweepFreeSpec.pre6 enc Tryz.prog Tryz.f3 Rows.sweepFreeRow.domain false) (Rows.sweepFreeSpec.post enc Tryz.prog Tryz.f3 false true false false):=by
 refine returnsInHanded_of_change (C:=Tryz.checked) own started (by kernel_rfl) Tryz.func3
  (ChangeSpec.witness6 (enc:=enc) (C:=Tryz.checked) false ⟨#[],#[.agg #[.int .i64 0,.int .i64 0,.int .i64 0,.int .i64 0,.int .i64 0,.slice none 0 0,.int .i64 0,.int .i64 0,.int .i64 0,.int .i64 0,.int .i64 0,.slice none 0 0,.int .i64 0,.int .i64 0,.int .i64 0,.int .i64 0,.int .i64 0,.int .i64 0,.int .i64 0,.int .i64 0,.int .i64 0,.int .i64 0,.int .i64 0,.int .i64 0,.int .i64 0,.int .i64 0,.int .i64 0,.int .i64 0,.int .i64 0,.int .i64 0],.agg #[.int .i64 0,.int .i64 0,.int .i64 0],.int .i64 0],[]⟩ 8 (by kernel_rfl) (by kernel_rfl) (by kernel_rfl) (by kernel_rfl)) ?_
 intro W base args ds gs before hval0 hW hcnd _
 have hval:∀ (j:Nat) t v,Tryz.f3.params[j]? = some t->args[j]? = some v->Value.okWide Tryz.prog W .any base t v:=hval0
 have hW':=hW
 obtain ⟨p,q,hA0,hV,rfl,hfz,hnd⟩:=hW
 have hA:DataW.TrodAll enc Tryz.prog W 0 (fun _=>true) true Tryz.f3.params.toList args.toList ds p:=hA0
 rw [Tryz.params3] at hA hval
 obtain ⟨v0,vs0,d0,ds0,p0,q0,hargs,rfl,rfl,h0,r0⟩:=trodAll_cons hA
 obtain ⟨v1,vs1,d1,ds1,p1,q1,rfl,rfl,rfl,h1,r1⟩:=trodAll_cons r0
 obtain ⟨v2,vs2,d2,ds2,p2,q2,rfl,rfl,rfl,h2,r2⟩:=trodAll_cons r1
 obtain ⟨rfl,rfl,rfl⟩:=trodAll_nil r2
 obtain rfl:args = #[v0,v1,v2]:=by cases args;simp_all
 obtain ⟨rfl,rfl⟩:=trodVars_none hV
 have k0:=h0
 have lt0:∀ x ∈ p0,x.block < W.heap.size:=by obtain ⟨m,hm⟩:=k0;exact DataW.trod_lt m _ _ _ hm
 obtain ⟨k1t,r1t,x1t,y1t,z1t,o1t,L1t,c1t,k2t,r2t,x2t,y2t,z2t,o2t,L2t,c2t,p0t,p1t,p2t,p3t,p4t,p5t,p6t,q0t,q1t,q2t,q3t,q4t,q5t,q6t,nrt,wxt,wyt,wzt,rfl,hL1t,hF1t,hL2t,hF2t,hbst⟩:=open_two (hval 0 33 v0 rfl rfl) h0
 have k1:=h1
 have lt1:∀ x ∈ p1,x.block < W.heap.size:=by obtain ⟨m,hm⟩:=k1;exact DataW.trod_lt m _ _ _ hm
 obtain ⟨tx1,ty1,tz1,rfl,_,_,nx1,ny1,nz1⟩:=open_point (hval 1 23 v1 rfl rfl) h1
 have btx1_:=bounds_i64 nx1
 have bty1_:=bounds_i64 ny1
 have btz1_:=bounds_i64 nz1
 obtain ⟨a2,rfl,rfl,rfl,w2⟩:=open_int Tryz.underlying3 (hval 2 3 v2 rfl rfl) h2
 have b2:=bounds_i64 w2
 clear hA0 hval0
 refine (walk k1t r1t x1t y1t z1t o1t L1t c1t k2t r2t x2t y2t z2t o2t L2t c2t p0t p1t p2t p3t p4t p5t p6t q0t q1t q2t q3t q4t q5t q6t nrt wxt wyt wzt tx1 ty1 tz1 a2 W hbst hL1t hF1t hL2t hF2t (by omega) (by omega) (by omega) (by omega)).mono fun e W' ⟨he,bel⟩=>?_
 subst he
 exact ⟨_,rfl,_,_,_,[],_,[],hW',trodAll_mk1 (shut_bool Tryz.underlying4 _),(trodAll_cons_mk (Below.trod laidOut (by kernel_rfl) (of_decide_eq_true (by kernel_rfl)) k0 bel lt0) (trodAll_cons_mk (Below.trod laidOut (by kernel_rfl) (of_decide_eq_true (by kernel_rfl)) k1 bel lt1) (trodAll_cons_mk (shut_int Tryz.underlying3 w2) trodAll_mk0))),rfl,bel.frame _,fun h=>by cases h⟩
theorem over:Rows.sweepFreeRow.holds Tryz.pinned (OpenSpec.ofChange Rows.sweepFreeSpec):=
 OpenClaim.holds_of_wide 3 Tryz.f3 rfl rfl rfl rfl rfl rfl rfl ⟨rfl,rfl,rfl,rfl,rfl⟩ rfl rfl rfl rfl rfl (by kernel_rfl) Tryz.func3 (by kernel_rfl)
  (of_decide_eq_true (by kernel_rfl)) (by unfold Func.isWrapper;first | (rw [if_pos (by decide +kernel)];kernel_rfl) | (rw [if_neg (by decide +kernel)];exact ⟨rfl,rfl⟩))
  (fun os started H enc _=>lifted os started H enc)
end sweepFree
theorem sweepFree_holds:Rows.SweepFreeSaid:=sweepFree.over
#print axioms sweepFree_holds
end
end Go.Proofs.YtohbjabihdgjhaaGreat
