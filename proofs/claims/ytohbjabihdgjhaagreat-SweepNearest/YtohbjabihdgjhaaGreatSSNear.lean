/- The nearest one is no further than any other one, whoever is over is no further than a grain, and a ball that goes nowhere goes all of its way just if it was apart: for all raw shapes and poses. -/
import Derived.Test.YtohbjabihdgjhaaGreatSSNear23
import Derived.Test.YtohbjabihdgjhaaGreatSSNear0
import Derived.Test.YtohbjabihdgjhaaGreatSSNear24
import Derived.Deep.MidRow
import Derived.Deep.CutRange
import Derived.Deep.LoopGhost
import Derived.Test.YtohbjabihdgjhaaGreatRows
import Derived.ProofKit
import Derived.OpenShut
set_option maxHeartbeats 32000000
set_option maxRecDepth 100000
set_option linter.unusedVariables false
namespace Go.Proofs.YtohbjabihdgjhaaGreat
section
namespace sweepNearest
open Go.ChangeShapes Go.WideShapes Go.ChangeAt Go.RowKit Go.Shelf
theorem own:ownKnob Tryz.prog.godebug = none:=by kernel_rfl
theorem laidOut:laidOutB Tryz.prog = true:=by kernel_rfl
theorem walk (k1t r1t x1t y1t z1t:Int) (o1t:Option Addr) (L1t:List Pt) (c1t:Nat) (k2t r2t x2t y2t z2t:Int) (o2t:Option Addr) (L2t:List Pt) (c2t:Nat) (p0t p1t p2t p3t p4t p5t p6t q0t q1t q2t q3t q4t q5t q6t nrt wxt wyt wzt:Int) (k1u r1u x1u y1u z1u:Int) (o1u:Option Addr) (L1u:List Pt) (c1u:Nat) (k2u r2u x2u y2u z2u:Int) (o2u:Option Addr) (L2u:List Pt) (c2u:Nat) (p0u p1u p2u p3u p4u p5u p6u q0u q1u q2u q3u q4u q5u q6u nru wxu wyu wzu:Int) (rd:Int) (w0:World) (hbt:∀ v ∈ ([k1t,r1t,x1t,y1t,z1t,k2t,r2t,x2t,y2t,z2t,p0t,p1t,p2t,p3t,p4t,p5t,p6t,q0t,q1t,q2t,q3t,q4t,q5t,q6t,nrt,wxt,wyt,wzt]:List Int),-9223372036854775808 <= v/\v <= 9223372036854775807) (hL1t:Lies w0 (.slice o1t L1t.length c1t) L1t) (hF1t:∀ p ∈ L1t,p.fits) (hL2t:Lies w0 (.slice o2t L2t.length c2t) L2t) (hF2t:∀ p ∈ L2t,p.fits) (hbu:∀ v ∈ ([k1u,r1u,x1u,y1u,z1u,k2u,r2u,x2u,y2u,z2u,p0u,p1u,p2u,p3u,p4u,p5u,p6u,q0u,q1u,q2u,q3u,q4u,q5u,q6u,nru,wxu,wyu,wzu]:List Int),-9223372036854775808 <= v/\v <= 9223372036854775807) (hL1u:Lies w0 (.slice o1u L1u.length c1u) L1u) (hF1u:∀ p ∈ L1u,p.fits) (hL2u:Lies w0 (.slice o2u L2u.length c2u) L2u) (hF2u:∀ p ∈ L2u,p.fits) (brd:-9223372036854775808 <= rd/\rd <= 9223372036854775807) :
  Calls Tryz.prog 4 #[.agg #[.int .i64 k1t,.int .i64 r1t,.int .i64 x1t,.int .i64 y1t,.int .i64 z1t,.slice o1t L1t.length c1t,.int .i64 k2t,.int .i64 r2t,.int .i64 x2t,.int .i64 y2t,.int .i64 z2t,.slice o2t L2t.length c2t,.int .i64 p0t,.int .i64 p1t,.int .i64 p2t,.int .i64 p3t,.int .i64 p4t,.int .i64 p5t,.int .i64 p6t,.int .i64 q0t,.int .i64 q1t,.int .i64 q2t,.int .i64 q3t,.int .i64 q4t,.int .i64 q5t,.int .i64 q6t,.int .i64 nrt,.int .i64 wxt,.int .i64 wyt,.int .i64 wzt],.agg #[.int .i64 k1u,.int .i64 r1u,.int .i64 x1u,.int .i64 y1u,.int .i64 z1u,.slice o1u L1u.length c1u,.int .i64 k2u,.int .i64 r2u,.int .i64 x2u,.int .i64 y2u,.int .i64 z2u,.slice o2u L2u.length c2u,.int .i64 p0u,.int .i64 p1u,.int .i64 p2u,.int .i64 p3u,.int .i64 p4u,.int .i64 p5u,.int .i64 p6u,.int .i64 q0u,.int .i64 q1u,.int .i64 q2u,.int .i64 q3u,.int .i64 q4u,.int .i64 q5u,.int .i64 q6u,.int .i64 nru,.int .i64 wxu,.int .i64 wyu,.int .i64 wzu],.int .i64 rd] w0 fun e w'=>e = .returned (.bool true)/\Below w0.heap.size w0 w':=by
 have HC1:Hid _:=fun w' (h:Below w0.heap.size w0 w')=>cores_any k1t r1t x1t y1t z1t o1t L1t c1t k2t r2t x2t y2t z2t o2t L2t c2t p0t p1t p2t p3t p4t p5t p6t q0t q1t q2t q3t q4t q5t q6t nrt wxt wyt wzt w' hbt (hL1t.below h) hF1t (hL2t.below h) hF2t
 have HC2:Hid _:=fun w' (h:Below w0.heap.size w0 w')=>cores_any k1u r1u x1u y1u z1u o1u L1u c1u k2u r2u x2u y2u z2u o2u L2u c2u p0u p1u p2u p3u p4u p5u p6u q0u q1u q2u q3u q4u q5u q6u nru wxu wyu wzu w' hbu (hL1u.below h) hF1u (hL2u.below h) hF2u
 have AW:Hid _:=fun W=>wawake_any W
 have HPK:Hid _:=fun W=>wpick_any rd 16384 W brd (by decide) (by decide)
 obtain ⟨g0,hg0⟩:∃ x,pickY rd 16384 = x:=⟨_,rfl⟩
 have lg0:=pickY_lo rd (n:=16384) (by decide)
 have mg0:=pickY_hi rd (n:=16384) (by decide)
 rw [hg0] at HPK lg0 mg0
 clear hbt hL1t hF1t hL2t hF2t hbu hL1u hF1u hL2u hF2u brd hg0
 obtain ⟨A1,hA1⟩:∃ V,V = w0.alloc (.cells #[.int .i64 k1t,.int .i64 r1t,.int .i64 x1t,.int .i64 y1t,.int .i64 z1t,.slice o1t L1t.length c1t,.int .i64 k2t,.int .i64 r2t,.int .i64 x2t,.int .i64 y2t,.int .i64 z2t,.slice o2t L2t.length c2t,.int .i64 p0t,.int .i64 p1t,.int .i64 p2t,.int .i64 p3t,.int .i64 p4t,.int .i64 p5t,.int .i64 p6t,.int .i64 q0t,.int .i64 q1t,.int .i64 q2t,.int .i64 q3t,.int .i64 q4t,.int .i64 q5t,.int .i64 q6t,.int .i64 nrt,.int .i64 wxt,.int .i64 wyt,.int .i64 wzt] 33):=⟨_,rfl⟩
 obtain ⟨W1,hW1⟩:∃ V,V = A1.alloc (.cells #[.int .i64 k1u,.int .i64 r1u,.int .i64 x1u,.int .i64 y1u,.int .i64 z1u,.slice o1u L1u.length c1u,.int .i64 k2u,.int .i64 r2u,.int .i64 x2u,.int .i64 y2u,.int .i64 z2u,.slice o2u L2u.length c2u,.int .i64 p0u,.int .i64 p1u,.int .i64 p2u,.int .i64 p3u,.int .i64 p4u,.int .i64 p5u,.int .i64 p6u,.int .i64 q0u,.int .i64 q1u,.int .i64 q2u,.int .i64 q3u,.int .i64 q4u,.int .i64 q5u,.int .i64 q6u,.int .i64 nru,.int .i64 wxu,.int .i64 wyu,.int .i64 wzu] 33):=⟨_,rfl⟩
 have z1:A1.heap.size = w0.heap.size + 1:=by rw [hA1,World.size_alloc]
 have k1:=n_after w0 (.cells #[.int .i64 k1t,.int .i64 r1t,.int .i64 x1t,.int .i64 y1t,.int .i64 z1t,.slice o1t L1t.length c1t,.int .i64 k2t,.int .i64 r2t,.int .i64 x2t,.int .i64 y2t,.int .i64 z2t,.slice o2t L2t.length c2t,.int .i64 p0t,.int .i64 p1t,.int .i64 p2t,.int .i64 p3t,.int .i64 p4t,.int .i64 p5t,.int .i64 p6t,.int .i64 q0t,.int .i64 q1t,.int .i64 q2t,.int .i64 q3t,.int .i64 q4t,.int .i64 q5t,.int .i64 q6t,.int .i64 nrt,.int .i64 wxt,.int .i64 wyt,.int .i64 wzt] 33)
 have k2:=n_after A1 (.cells #[.int .i64 k1u,.int .i64 r1u,.int .i64 x1u,.int .i64 y1u,.int .i64 z1u,.slice o1u L1u.length c1u,.int .i64 k2u,.int .i64 r2u,.int .i64 x2u,.int .i64 y2u,.int .i64 z2u,.slice o2u L2u.length c2u,.int .i64 p0u,.int .i64 p1u,.int .i64 p2u,.int .i64 p3u,.int .i64 p4u,.int .i64 p5u,.int .i64 p6u,.int .i64 q0u,.int .i64 q1u,.int .i64 q2u,.int .i64 q3u,.int .i64 q4u,.int .i64 q5u,.int .i64 q6u,.int .i64 nru,.int .i64 wxu,.int .i64 wyu,.int .i64 wzu] 33)
 rw [<- hA1] at k1
 rw [<- hW1] at k2
 obtain ⟨tb,htb⟩:∃ b,b = w0.heap.size:=⟨_,rfl⟩
 obtain ⟨ub,hub⟩:∃ b,b = w0.heap.size + 1:=⟨_,rfl⟩
 have n1:=CelW.new w0 [.int .i64 k1t,.int .i64 r1t,.int .i64 x1t,.int .i64 y1t,.int .i64 z1t,.slice o1t L1t.length c1t,.int .i64 k2t,.int .i64 r2t,.int .i64 x2t,.int .i64 y2t,.int .i64 z2t,.slice o2t L2t.length c2t,.int .i64 p0t,.int .i64 p1t,.int .i64 p2t,.int .i64 p3t,.int .i64 p4t,.int .i64 p5t,.int .i64 p6t,.int .i64 q0t,.int .i64 q1t,.int .i64 q2t,.int .i64 q3t,.int .i64 q4t,.int .i64 q5t,.int .i64 q6t,.int .i64 nrt,.int .i64 wxt,.int .i64 wyt,.int .i64 wzt] 33
 have n2:=CelW.new A1 [.int .i64 k1u,.int .i64 r1u,.int .i64 x1u,.int .i64 y1u,.int .i64 z1u,.slice o1u L1u.length c1u,.int .i64 k2u,.int .i64 r2u,.int .i64 x2u,.int .i64 y2u,.int .i64 z2u,.slice o2u L2u.length c2u,.int .i64 p0u,.int .i64 p1u,.int .i64 p2u,.int .i64 p3u,.int .i64 p4u,.int .i64 p5u,.int .i64 p6u,.int .i64 q0u,.int .i64 q1u,.int .i64 q2u,.int .i64 q3u,.int .i64 q4u,.int .i64 q5u,.int .i64 q6u,.int .i64 nru,.int .i64 wxu,.int .i64 wyu,.int .i64 wzu] 33
 rw [<- hA1,<- htb] at n1
 rw [<- hW1,z1,<- hub] at n2
 have CF:Hid (CelW W1 tb [.int .i64 k1t,.int .i64 r1t,.int .i64 x1t,.int .i64 y1t,.int .i64 z1t,.slice o1t L1t.length c1t,.int .i64 k2t,.int .i64 r2t,.int .i64 x2t,.int .i64 y2t,.int .i64 z2t,.slice o2t L2t.length c2t,.int .i64 p0t,.int .i64 p1t,.int .i64 p2t,.int .i64 p3t,.int .i64 p4t,.int .i64 p5t,.int .i64 p6t,.int .i64 q0t,.int .i64 q1t,.int .i64 q2t,.int .i64 q3t,.int .i64 q4t,.int .i64 q5t,.int .i64 q6t,.int .i64 nrt,.int .i64 wxt,.int .i64 wyt,.int .i64 wzt]):=n1.step k2
 have CV:Hid (CelW W1 ub [.int .i64 k1u,.int .i64 r1u,.int .i64 x1u,.int .i64 y1u,.int .i64 z1u,.slice o1u L1u.length c1u,.int .i64 k2u,.int .i64 r2u,.int .i64 x2u,.int .i64 y2u,.int .i64 z2u,.slice o2u L2u.length c2u,.int .i64 p0u,.int .i64 p1u,.int .i64 p2u,.int .i64 p3u,.int .i64 p4u,.int .i64 p5u,.int .i64 p6u,.int .i64 q0u,.int .i64 q1u,.int .i64 q2u,.int .i64 q3u,.int .i64 q4u,.int .i64 q5u,.int .i64 q6u,.int .i64 nru,.int .i64 wxu,.int .i64 wyu,.int .i64 wzu]):=n2
 have hB1:Below w0.heap.size w0 W1:=b_step k1 k2
 have hlv:=CelW.lt CV.out
 have HS:Hid (SB w0 W1 W1.heap.size tb ub [] []):=⟨hB1,Nat.le_refl _,(by omega),(fun p hp=>by cases hp),(fun p hp=>by cases hp),(fun p hp=>by cases hp),(fun p hp=>by cases hp)⟩
 clear n1 n2 hB1 hlv k1 k2
 go_enter Tryz.func4,Tryz.ntmps4
 go_upto_region 1 with fail
 rw [<- hA1,<- hW1,<- hub,<- htb]
 clear hW1 hA1 z1 htb hub
 go_wp2_with (fail)
 refine Calls.mono (AW.out _) ?_
 rintro e V1 ⟨rfl,hb⟩
 have HS:Hid _:=HS.out.step hb
 have CF:Hid (CelW _ _ _):=CF.out.step hb
 have CV:Hid (CelW _ _ _):=CV.out.step hb
 clear hb AW
 have HRG:Hid (World.rangeAt V1 tb 0 [.int .i64 k1t,.int .i64 r1t,.int .i64 x1t,.int .i64 y1t,.int .i64 z1t,.slice o1t L1t.length c1t,.int .i64 k2t,.int .i64 r2t,.int .i64 x2t,.int .i64 y2t,.int .i64 z2t,.slice o2t L2t.length c2t,.int .i64 p0t,.int .i64 p1t,.int .i64 p2t,.int .i64 p3t,.int .i64 p4t,.int .i64 p5t,.int .i64 p6t,.int .i64 q0t,.int .i64 q1t,.int .i64 q2t,.int .i64 q3t,.int .i64 q4t,.int .i64 q5t,.int .i64 q6t,.int .i64 nrt,.int .i64 wxt,.int .i64 wyt,.int .i64 wzt]):=fun j v e=>by rw [Nat.zero_add];exact (CelW.cel CF.out) j v e
 go_wp2_with (refine wpList_load_mid rfl 33 _ rfl tb 0 rfl _ _ HRG.out Tryz.underlying33 rfl (by kernel_rfl) ?_)
 refine Calls.mono (HC1.out _ HS.out.below) ?_
 rintro e V2 ⟨a,b,av1,av2,av3,bv1,bv2,bv3,rfl,HLI,hNa,hNb,hRa,hRb,HFR⟩
 obtain ⟨hl1,hl2,hl3,hl4,hl5,hl6,hb⟩:=HLI.out
 obtain ⟨ao1,ac1,rfl,_⟩:=hl1.form
 obtain ⟨ao2,ac2,rfl,_⟩:=hl2.form
 obtain ⟨ao3,ac3,rfl,_⟩:=hl3.form
 obtain ⟨bo1,bc1,rfl,_⟩:=hl4.form
 obtain ⟨bo2,bc2,rfl,_⟩:=hl5.form
 obtain ⟨bo3,bc3,rfl,_⟩:=hl6.form
 obtain ⟨hf1,hf2,hf3,hf4,hf5,hf6⟩:=HFR.out
 have hn9:=HS.out.hn
 have HS:Hid _:=(((((((HS.out.step hb).lay hl6 (hf6.le hn9)).lay hl5 (hf5.le hn9)).lay hl4 (hf4.le hn9)).lay hl3 (hf3.le hn9)).lay hl2 (hf2.le hn9)).lay hl1 (hf1.le hn9))
 have CF:Hid (CelW _ _ _):=CF.out.step hb
 have CV:Hid (CelW _ _ _):=CV.out.step hb
 clear HLI hl1 hl2 hl3 hl4 hl5 hl6 hb HC1 HRG HFR hf1 hf2 hf3 hf4 hf5 hf6 hn9
 obtain ⟨V2x,hX⟩:∃ V,V = (V2.alloc (.cells #[.slice ao1 a.P.length ac1,.slice ao2 a.A.length ac2,.slice ao3 a.E.length ac3,.int .i64 a.r] 36)).alloc (.cells #[.slice bo1 b.P.length bc1,.slice bo2 b.A.length bc2,.slice bo3 b.E.length bc3,.int .i64 b.r] 36):=⟨_,rfl⟩
 obtain ⟨ab,hab⟩:∃ b,b = V2.heap.size:=⟨_,rfl⟩
 obtain ⟨bb,hbb⟩:∃ b,b = V2.heap.size + 1:=⟨_,rfl⟩
 have hbx:Below V2.heap.size V2 V2x:=by rw [hX];exact b_step (n_after _ _) (n_after _ _)
 have n2:=Cel.new (V2.alloc (.cells #[.slice ao1 a.P.length ac1,.slice ao2 a.A.length ac2,.slice ao3 a.E.length ac3,.int .i64 a.r] 36)) [.slice bo1 b.P.length bc1,.slice bo2 b.A.length bc2,.slice bo3 b.E.length bc3,.int .i64 b.r] 36
 rw [World.size_alloc] at n2
 have m1:Cel V2x ab [.slice ao1 a.P.length ac1,.slice ao2 a.A.length ac2,.slice ao3 a.E.length ac3,.int .i64 a.r]:=by rw [hX,hab];exact (Cel.new _ [.slice ao1 a.P.length ac1,.slice ao2 a.A.length ac2,.slice ao3 a.E.length ac3,.int .i64 a.r] _).step (n_after _ _)
 have m2:Cel V2x bb [.slice bo1 b.P.length bc1,.slice bo2 b.A.length bc2,.slice bo3 b.E.length bc3,.int .i64 b.r]:=by rw [hX,hbb];exact n2
 have hn9:=HS.out.hn
 have HS:Hid _:=((HS.out.step hbx).add m2 (by omega)).add m1 (by omega)
 have CF:Hid (CelW _ _ _):=CF.out.step hbx
 have CV:Hid (CelW _ _ _):=CV.out.step hbx
 clear n2 m1 m2 hn9
 go_upto_region 3 with fail
 rw [<- hX,<- hbb,<- hab]
 clear hX hab hbb hbx
 have HRG:Hid (World.rangeAt V2x ub 0 [.int .i64 k1u,.int .i64 r1u,.int .i64 x1u,.int .i64 y1u,.int .i64 z1u,.slice o1u L1u.length c1u,.int .i64 k2u,.int .i64 r2u,.int .i64 x2u,.int .i64 y2u,.int .i64 z2u,.slice o2u L2u.length c2u,.int .i64 p0u,.int .i64 p1u,.int .i64 p2u,.int .i64 p3u,.int .i64 p4u,.int .i64 p5u,.int .i64 p6u,.int .i64 q0u,.int .i64 q1u,.int .i64 q2u,.int .i64 q3u,.int .i64 q4u,.int .i64 q5u,.int .i64 q6u,.int .i64 nru,.int .i64 wxu,.int .i64 wyu,.int .i64 wzu]):=fun j v e=>by rw [Nat.zero_add];exact (CelW.cel CV.out) j v e
 go_wp2_with (refine wpList_load_mid rfl 33 _ rfl ub 0 rfl _ _ HRG.out Tryz.underlying33 rfl (by kernel_rfl) ?_)
 refine Calls.mono (HC2.out _ HS.out.below) ?_
 rintro e V3 ⟨c,d,cv1,cv2,cv3,dv1,dv2,dv3,rfl,HLI,hNc,hNd,hRc,hRd,HFR⟩
 obtain ⟨hl1,hl2,hl3,hl4,hl5,hl6,hb⟩:=HLI.out
 obtain ⟨co1,cc1,rfl,_⟩:=hl1.form
 obtain ⟨co2,cc2,rfl,_⟩:=hl2.form
 obtain ⟨co3,cc3,rfl,_⟩:=hl3.form
 obtain ⟨do1,dc1,rfl,_⟩:=hl4.form
 obtain ⟨do2,dc2,rfl,_⟩:=hl5.form
 obtain ⟨do3,dc3,rfl,_⟩:=hl6.form
 obtain ⟨hf1,hf2,hf3,hf4,hf5,hf6⟩:=HFR.out
 have hn9:=HS.out.hn
 have HS:Hid _:=(((((((HS.out.step hb).lay hl6 (hf6.le hn9)).lay hl5 (hf5.le hn9)).lay hl4 (hf4.le hn9)).lay hl3 (hf3.le hn9)).lay hl2 (hf2.le hn9)).lay hl1 (hf1.le hn9))
 have CF:Hid (CelW _ _ _):=CF.out.step hb
 have CV:Hid (CelW _ _ _):=CV.out.step hb
 clear HLI hl1 hl2 hl3 hl4 hl5 hl6 hb HC2 HRG HFR hf1 hf2 hf3 hf4 hf5 hf6 hn9
 obtain ⟨V3x,hX⟩:∃ V,V = (V3.alloc (.cells #[.slice co1 c.P.length cc1,.slice co2 c.A.length cc2,.slice co3 c.E.length cc3,.int .i64 c.r] 36)).alloc (.cells #[.slice do1 d.P.length dc1,.slice do2 d.A.length dc2,.slice do3 d.E.length dc3,.int .i64 d.r] 36):=⟨_,rfl⟩
 obtain ⟨cb,hcb⟩:∃ b,b = V3.heap.size:=⟨_,rfl⟩
 obtain ⟨db,hdb⟩:∃ b,b = V3.heap.size + 1:=⟨_,rfl⟩
 have hbx:Below V3.heap.size V3 V3x:=by rw [hX];exact b_step (n_after _ _) (n_after _ _)
 have n2:=Cel.new (V3.alloc (.cells #[.slice co1 c.P.length cc1,.slice co2 c.A.length cc2,.slice co3 c.E.length cc3,.int .i64 c.r] 36)) [.slice do1 d.P.length dc1,.slice do2 d.A.length dc2,.slice do3 d.E.length dc3,.int .i64 d.r] 36
 rw [World.size_alloc] at n2
 have m1:Cel V3x cb [.slice co1 c.P.length cc1,.slice co2 c.A.length cc2,.slice co3 c.E.length cc3,.int .i64 c.r]:=by rw [hX,hcb];exact (Cel.new _ [.slice co1 c.P.length cc1,.slice co2 c.A.length cc2,.slice co3 c.E.length cc3,.int .i64 c.r] _).step (n_after _ _)
 have m2:Cel V3x db [.slice do1 d.P.length dc1,.slice do2 d.A.length dc2,.slice do3 d.E.length dc3,.int .i64 d.r]:=by rw [hX,hdb];exact n2
 have hn9:=HS.out.hn
 have HS:Hid _:=((HS.out.step hbx).add m2 (by omega)).add m1 (by omega)
 have CF:Hid (CelW _ _ _):=CF.out.step hbx
 have CV:Hid (CelW _ _ _):=CV.out.step hbx
 clear n2 m1 m2 hn9
 go_upto_region 4 with fail
 rw [<- hX,<- hdb,<- hcb]
 clear hX hcb hdb hbx
 have HCb:Hid (Cel V3x cb [.slice co1 c.P.length cc1,.slice co2 c.A.length cc2,.slice co3 c.E.length cc3,.int .i64 c.r]):=HS.out.bx _ ms
 have HDb:Hid (Cel V3x db [.slice do1 d.P.length dc1,.slice do2 d.A.length dc2,.slice do3 d.E.length dc3,.int .i64 d.r]):=HS.out.bx _ (mc (ms))
 have HBb:Hid (Cel V3x bb [.slice bo1 b.P.length bc1,.slice bo2 b.A.length bc2,.slice bo3 b.E.length bc3,.int .i64 b.r]):=HS.out.bx _ (mc (mc (mc (ms))))
 have x0:=HBb.out 0 _ rfl
 have x1:=HBb.out 1 _ rfl
 have x2:=HBb.out 2 _ rfl
 have x3:=HBb.out 3 _ rfl
 have y0:=HCb.out 0 _ rfl
 have y1:=HCb.out 1 _ rfl
 have y2:=HCb.out 2 _ rfl
 have y3:=HCb.out 3 _ rfl
 have z0:=HDb.out 0 _ rfl
 have z1:=HDb.out 1 _ rfl
 have z2:=HDb.out 2 _ rfl
 have z3:=HDb.out 3 _ rfl
 obtain ⟨Q,hQ⟩:∃ V,V = V3x.alloc (.cells #[.slice bo1 b.P.length bc1,.slice bo2 b.A.length bc2,.slice bo3 b.E.length bc3,.int .i64 b.r,.slice co1 c.P.length cc1,.slice co2 c.A.length cc2,.slice co3 c.E.length cc3,.int .i64 c.r,.slice do1 d.P.length dc1,.slice do2 d.A.length dc2,.slice do3 d.E.length dc3,.int .i64 d.r] 36):=⟨_,rfl⟩
 obtain ⟨lb,hlb⟩:∃ b,b = V3x.heap.size:=⟨_,rfl⟩
 have hbq:Below V3x.heap.size V3x Q:=by rw [hQ];exact n_after _ _
 have m2:Cel Q lb [.slice bo1 b.P.length bc1,.slice bo2 b.A.length bc2,.slice bo3 b.E.length bc3,.int .i64 b.r,.slice co1 c.P.length cc1,.slice co2 c.A.length cc2,.slice co3 c.E.length cc3,.int .i64 c.r,.slice do1 d.P.length dc1,.slice do2 d.A.length dc2,.slice do3 d.E.length dc3,.int .i64 d.r]:=by rw [hQ,hlb];exact Cel.new V3x [.slice bo1 b.P.length bc1,.slice bo2 b.A.length bc2,.slice bo3 b.E.length bc3,.int .i64 b.r,.slice co1 c.P.length cc1,.slice co2 c.A.length cc2,.slice co3 c.E.length cc3,.int .i64 c.r,.slice do1 d.P.length dc1,.slice do2 d.A.length dc2,.slice do3 d.E.length dc3,.int .i64 d.r] 36
 have HS:Hid _:=HS.out.step hbq
 have c1:=HS.out.lz (.slice co1 c.P.length cc1,c.P) ms
 have c2:=HS.out.lz (.slice co2 c.A.length cc2,c.A) (mc (ms))
 have c3:=HS.out.lz (.slice co3 c.E.length cc3,c.E) (mc (mc (ms)))
 have d1:=HS.out.lz (.slice do1 d.P.length dc1,d.P) (mc (mc (mc (ms))))
 have d2:=HS.out.lz (.slice do2 d.A.length dc2,d.A) (mc (mc (mc (mc (ms)))))
 have d3:=HS.out.lz (.slice do3 d.E.length dc3,d.E) (mc (mc (mc (mc (mc (ms))))))
 have a1:=HS.out.lz (.slice ao1 a.P.length ac1,a.P) (mc (mc (mc (mc (mc (mc (ms)))))))
 have a2:=HS.out.lz (.slice ao2 a.A.length ac2,a.A) (mc (mc (mc (mc (mc (mc (mc (ms))))))))
 have a3:=HS.out.lz (.slice ao3 a.E.length ac3,a.E) (mc (mc (mc (mc (mc (mc (mc (mc (ms)))))))))
 have b1:=HS.out.lz (.slice bo1 b.P.length bc1,b.P) (mc (mc (mc (mc (mc (mc (mc (mc (mc (ms))))))))))
 have b2:=HS.out.lz (.slice bo2 b.A.length bc2,b.A) (mc (mc (mc (mc (mc (mc (mc (mc (mc (mc (ms)))))))))))
 have b3:=HS.out.lz (.slice bo3 b.E.length bc3,b.E) (mc (mc (mc (mc (mc (mc (mc (mc (mc (mc (mc (ms))))))))))))
 have HLC:Hid (LiesC Q (.slice (some ⟨lb,0,none⟩) 3 3) [b,c,d]):=liesC_three m2 b1 b2 b3 c1 c2 c3 d1 d2 d3
 have HLA:Hid (Lies Q (.slice ao1 a.P.length ac1) a.P/\Lies Q (.slice ao2 a.A.length ac2) a.A/\Lies Q (.slice ao3 a.E.length ac3) a.E):=⟨a1,a2,a3⟩
 have HLB:Hid (Lies Q (.slice bo1 b.P.length bc1) b.P/\Lies Q (.slice bo2 b.A.length bc2) b.A/\Lies Q (.slice bo3 b.E.length bc3) b.E):=⟨b1,b2,b3⟩
 have HAb:Hid (Cel Q ab [.slice ao1 a.P.length ac1,.slice ao2 a.A.length ac2,.slice ao3 a.E.length ac3,.int .i64 a.r]):=HS.out.bx _ (mc (mc (ms)))
 have HBb:Hid (Cel Q bb [.slice bo1 b.P.length bc1,.slice bo2 b.A.length bc2,.slice bo3 b.E.length bc3,.int .i64 b.r]):=HS.out.bx _ (mc (mc (mc (ms))))
 have HB:Hid _:=HS.out.below
 clear m2 a1 a2 a3 b1 b2 b3 c1 c2 c3 d1 d2 d3 HS HCb HDb CF CV
 go_cut [2,7,8,9,12] from 0 to 57 (fun s2 s7 s8 s9 s12 wx=>s2 = .int .i64 rd/\s7 = .bool true/\s8 = .pointer (some ⟨ab,0,none⟩)/\s9 = .pointer (some ⟨bb,0,none⟩)/\s12 = .slice (some ⟨lb,0,none⟩) 3 3/\wx = Q)
 case first =>
  go_wp2_with (fail)
  go_meet
  case rel=>rw [hQ,hlb];exact ⟨rfl,rfl,rfl,rfl,rfl,rfl⟩
 case rest =>
  obtain ⟨rfl,rfl,rfl,rfl,rfl,e8⟩:=hcut
  rw [e8]
  clear hQ hlb hbq e8 x0 x1 x2 x3 y0 y1 y2 y3 z0 z1 z2 z3
  obtain ⟨j,g1,g2,g3,gg,ol,mm,en,eo,hm0,hml,hfa⟩:=near_over hNa.1 hNb.1 hNc.1 hNd.1
  have HN:Hid _:=wnear_any a [b,c,d] _ _ _ _ Q HLC.out HLA.out.1 HLA.out.2.1 HLA.out.2.2
  have HO:Hid _:=fun (w':World) (h:Below Q.heap.size Q w')=>wover_any a [b,c,d] _ _ _ _ w' (HLC.out.below h) (HLA.out.1.below h) (HLA.out.2.1.below h) (HLA.out.2.2.below h) (by simp)
  rw [en] at HN
  rw [eo] at HO
  unfold coreA at HN HO
  have HFA:Hid _:=hfa
  have HML:Hid _:=hml
  clear en eo hfa hml
  have x0:=HAb.out 0 _ rfl
  have x1:=HAb.out 1 _ rfl
  have x2:=HAb.out 2 _ rfl
  have x3:=HAb.out 3 _ rfl
  go_wp2_with (fail)
  refine Calls.mono HN.out ?_
  rintro e Q1 ⟨rfl,hb⟩
  obtain ⟨Q2,hQ2⟩:∃ V,V = Q1.alloc (.cells #[.int .i64 g1,.int .i64 g2,.int .i64 g3,.int .i64 gg] 41):=⟨_,rfl⟩
  obtain ⟨xb,hxb⟩:∃ b,b = Q1.heap.size:=⟨_,rfl⟩
  have hb2:Below Q1.heap.size Q1 Q2:=by rw [hQ2];exact n_after _ _
  have CX:Hid (Cel Q2 xb [.int .i64 g1,.int .i64 g2,.int .i64 g3,.int .i64 gg]):=by show Cel _ _ _;rw [hQ2,hxb];exact Cel.new _ [.int .i64 g1,.int .i64 g2,.int .i64 g3,.int .i64 gg] _
  have HQ:Hid (Below Q.heap.size Q Q2):=b_step hb hb2
  clear HN hb x0 x1 x2 x3
  go_upto_region 6 with fail
  rw [<- hQ2,<- hxb]
  clear hQ2 hxb hb2
  have HAb2:Hid (Cel Q2 ab [.slice ao1 a.P.length ac1,.slice ao2 a.A.length ac2,.slice ao3 a.E.length ac3,.int .i64 a.r]):=HAb.out.step HQ.out
  have x0:=HAb2.out 0 _ rfl
  have x1:=HAb2.out 1 _ rfl
  have x2:=HAb2.out 2 _ rfl
  have x3:=HAb2.out 3 _ rfl
  go_wp2_with (fail)
  refine Calls.mono (HO.out _ HQ.out) ?_
  rintro e Q3 ⟨u9,rfl,hrow,hb⟩
  obtain ⟨yo,yc,rfl⟩:=rowi_form hrow
  have HRY:Hid (Q3.ownsRow _ 3 1 _ _ _):=hrow
  have CX:Hid (Cel _ _ _):=CX.out.step hb
  have HQ:Hid (Below Q.heap.size Q Q3):=b_step HQ.out hb
  have HLC:Hid (LiesC _ _ _):=HLC.out.below HQ.out
  have HAb:Hid (Cel _ _ _):=HAb.out.step HQ.out
  have HBb:Hid (Cel _ _ _):=HBb.out.step HQ.out
  have HLA:Hid (Lies Q3 (.slice ao1 a.P.length ac1) a.P/\Lies Q3 (.slice ao2 a.A.length ac2) a.A/\Lies Q3 (.slice ao3 a.E.length ac3) a.E):=⟨HLA.out.1.below HQ.out,HLA.out.2.1.below HQ.out,HLA.out.2.2.below HQ.out⟩
  have HLB:Hid (Lies Q3 (.slice bo1 b.P.length bc1) b.P/\Lies Q3 (.slice bo2 b.A.length bc2) b.A/\Lies Q3 (.slice bo3 b.E.length bc3) b.E):=⟨HLB.out.1.below HQ.out,HLB.out.2.1.below HQ.out,HLB.out.2.2.below HQ.out⟩
  have HB:Hid (Below w0.heap.size w0 Q3):=b_step HB.out HQ.out
  clear hb hrow HO x0 x1 x2 x3 HAb2 HQ
  obtain ⟨on,hon⟩:∃ n,ol.length = n:=⟨_,rfl⟩
  rw [hon] at HML
  have HON:Hid (ol.length = on):=hon
  simp only [hon]
  clear hon
  have HNA:Hid _:=And.intro hNa (And.intro hNb (And.intro hRa hRb))
  have HGX:Hid (0 <= g0/\g0 < 16384):=by show _/\_;omega
  clear hNa hNb hNc hNd hRa hRb hRc hRd lg0 mg0
  go_wp2_with (fail)
  go_loopg [17,18] 3 (fun gm s17 s18 wr=>∃ k:Nat,k + gm = 3/\s18 = .int .i64 (k:Int)/\s17 = .int .i64 (mm k:Int)/\Hid (Below Q3.heap.size Q3 wr))
  case atStart=>exact ⟨0,rfl,rfl,by rw [hm0];rfl,Below.refl _ _⟩
  case round =>
   obtain ⟨k,hk,rfl,rfl,HQ⟩:=hrel
   rcases Nat.eq_zero_or_pos gk with h0 | h0
   ·obtain rfl:k = 3:=by omega
    clear hk h0 HFA HRY CX HLC HON
    obtain ⟨wz,hwz⟩:∃ V,V = wr:=⟨_,rfl⟩
    rw [<- hwz] at HQ
    have HBZ:Hid (Below w0.heap.size w0 wz):=b_step HB.out HQ.out
    have HBbz:Hid (Cel wz bb [.slice bo1 b.P.length bc1,.slice bo2 b.A.length bc2,.slice bo3 b.E.length bc3,.int .i64 b.r]):=HBb.out.step HQ.out
    have HLBz:Hid (Lies wz (.slice bo1 b.P.length bc1) b.P/\Lies wz (.slice bo2 b.A.length bc2) b.A/\Lies wz (.slice bo3 b.E.length bc3) b.E):=⟨HLB.out.1.below HQ.out,HLB.out.2.1.below HQ.out,HLB.out.2.2.below HQ.out⟩
    obtain ⟨⟨hMa,hMl,hMp⟩,⟨hMb,_,_⟩,_,_⟩:=HNA.out
    obtain ⟨fa1,_,_,_⟩:=may_facts hMa
    have hla:=HLA.out.1.below HQ.out
    obtain ⟨o',cap',e',_,_,hcl⟩:=hla.form
    cases e'
    obtain ⟨ge,fe,rfl,oc0,oc1,oc2⟩:=hcl 0 fa1
    have hin:=hMp _ (pt_mem fa1)
    obtain ⟨⟨ox,oy,oz⟩,hpe⟩:∃ x,pt a.P 0 = x:=⟨_,rfl⟩
    rw [hpe] at oc0 oc1 oc2 hin
    have hpn:¬ a.P = []:=fun e=>by rw [e] at fa1;simp at fa1
    simp only [Nat.zero_mul,Nat.add_zero] at oc0 oc1 oc2
    have hHA:Cel wz ab [.slice (some ⟨ge,fe,none⟩) a.P.length ac1,.slice ao2 a.A.length ac2,.slice ao3 a.E.length ac3,.int .i64 a.r]:=HAb.out.step HQ.out
    have pc0:=hHA 0 _ rfl
    obtain ⟨r1,hr1⟩:∃ x,1 + g0 = x:=⟨_,rfl⟩
    have w_r1:IntKind.i64.wrap (1 + g0) = r1:=by rw [hr1,IntKind.wrap_i64];have:=HGX.out;omega
    have hr65:0 <= r1/\r1 <= 65536:=by have:=HGX.out;omega
    have hMB:=ball_may hin hr65
    have hCB:=ball_cast hin hr65 hMb
    have HA9:Hid _:=fun (v:Value) (w':World) (l1:Lies w' v [⟨ox,oy,oz⟩])=>apart_told ⟨[⟨ox,oy,oz⟩],[],[],r1⟩ b v (.slice none 0 0) (.slice none 0 0) (.slice bo1 b.P.length bc1) (.slice bo2 b.A.length bc2) (.slice bo3 b.E.length bc3) w' hMB hMb l1 (lies_nil9 _) (lies_nil9 _)
    have HC9:Hid _:=fun (v:Value) (w':World) (l1:Lies w' v [⟨ox,oy,oz⟩])=>wcast_any ⟨[⟨ox,oy,oz⟩],[],[],r1⟩ ⟨0,0,0⟩ b v (.slice none 0 0) (.slice none 0 0) (.slice bo1 b.P.length bc1) (.slice bo2 b.A.length bc2) (.slice bo3 b.E.length bc3) w' l1 (lies_nil9 _) (lies_nil9 _)
    have hst:=still_cast hCB
    have eap:apP ⟨[⟨ox,oy,oz⟩],[],[],r1⟩ b = told ⟨[⟨ox,oy,oz⟩],[],[],r1⟩ b:=by unfold apP;rw [hMB,hMb];rfl
    rw [eap] at hst
    rw [hCB] at HC9
    obtain ⟨⟨⟨ax,ay,az⟩,ag⟩,hag⟩:∃ x,told ⟨[⟨ox,oy,oz⟩],[],[],r1⟩ b = x:=⟨_,rfl⟩
    obtain ⟨kN,hkN⟩:∃ x,(castR ⟨[⟨ox,oy,oz⟩],[],[],r1⟩ ⟨0,0,0⟩ b).1 = x:=⟨_,rfl⟩
    obtain ⟨⟨⟨dx,dy,dz⟩,dg⟩,hdg⟩:∃ x,(castR ⟨[⟨ox,oy,oz⟩],[],[],r1⟩ ⟨0,0,0⟩ b).2 = x:=⟨_,rfl⟩
    rw [hag] at HA9 hst
    rw [hkN] at HC9 hst
    rw [hdg] at HC9
    obtain ⟨kc,hkc⟩:∃ x:Int,(kN:Int) = x:=⟨_,rfl⟩
    rw [hkc] at HC9
    unfold coreA apV Pt.v at HC9
    dsimp only at HA9 HC9 hst
    have HKC:Hid ((kN:Int) = kc):=hkc
    have HST:Hid ((kc = 16/\0 <= ag) \/ (¬ kc = 16/\¬ 0 <= ag)):=by
     show _ \/ _
     by_cases h:kN = 16
     ·exact Or.inl ⟨by omega,hst.1 h⟩
     ·exact Or.inr ⟨by omega,fun h9=>h (hst.2 h9)⟩
    obtain ⟨mn,hmn⟩:∃ n,mm 3 = n:=⟨_,rfl⟩
    have honm:on = mn:=HML.out.trans hmn
    subst honm
    rw [hmn]
    clear hst hkc hdg hkN hag eap hCB hMB hr65 hr1 hin hpe hcl hla fa1 hMa hMl hMp hMb HNA HGX hHA HML hmn hm0
    go_upto_region 20 with fail
    rw [<- hwz]
    clear hwz
    refine RV.rs [.some (.pointer (some ⟨ab,0,none⟩)),.some (.slice (some ⟨ge,fe,none⟩) a.P.length ac1),.some (.pointer (some ⟨ge,fe,none⟩)),.some (.agg #[.int .i64 ox,.int .i64 oy,.int .i64 oz]),none,.some (.int .i64 rd),.some (.int .i64 g0),.some (.int .i64 r1),none,none,none] [106,107,108,109,110,111,112,113,114,22,0] [(8,.pointer (some ⟨ab,0,none⟩)),(2,.int .i64 rd)] (fun γ L w=>BG wz #[.int .i64 ox,.int .i64 oy,.int .i64 oz] (.int .i64 r1) γ L w) ⟨rfl,rfl,trivial⟩ (BG.start (Below.refl _ wz).drew rfl) ?_ ?_
    ·intro D WA Z hD hWA hZ T
     simp only [RV.Outs,RV.Slots,Nat.reduceAdd] at T
     (refine RV.cc _ (RV.pu T (fun γ v L w hl h=>h.other _ (by decide) (by decide) (by decide) (by decide)) (fun γ L a w hH hl h9 k9=>⟨_,?_,rfl⟩)) ?_;· simp [execOp,go_sem,h9])
     (refine RV.cc _ (RV.pu T (fun γ v L w hl h=>h.other _ (by decide) (by decide) (by decide) (by decide)) (fun γ L a w hH hl h9 k9=>⟨_,?_,rfl⟩)) ?_;· have q0:=c_after hH.glob.1 pc0;simp [Region.binds] at k9;simp [execOp,go_sem,h9,k9,q0])
     (refine RV.cc _ (RV.pu T (fun γ v L w hl h=>h.other _ (by decide) (by decide) (by decide) (by decide)) (fun γ L a w hH hl h9 k9=>⟨_,?_,rfl⟩)) ?_;· simp [Region.binds] at k9;simp [execOp,go_sem,h9,k9,hpn])
     (refine RV.cc _ (RV.pu T (fun γ v L w hl h=>h.other _ (by decide) (by decide) (by decide) (by decide)) (fun γ L a w hH hl h9 k9=>⟨_,?_,rfl⟩)) ?_;· have q0:=c_after hH.glob.1 oc0;have q1:=c_after hH.glob.1 oc1;have q2:=c_after hH.glob.1 oc2;simp [Region.binds] at k9;simp [execOp,go_sem,h9,k9,q0,q1,q2])
     refine RV.cc _ (RV.does_step (fun γ L a w hH hl hA=>by have h9:=T γ L a w hH;have k9:=hA;simp [Region.binds] at k9;exact ⟨.slice (some ⟨w.heap.size,0,none⟩) 1 1,w.alloc (.cells #[.int .i64 ox,.int .i64 oy,.int .i64 oz] 23),by simp [execOp,go_sem,h9,k9],trivial,fun j v _ h=>h.keep _,hH.glob.lay⟩)) ?_
     (refine RV.cc _ (RV.pu T (fun γ v L w hl h=>h.other _ (by decide) (by decide) (by decide) (by decide)) (fun γ L a w hH hl h9 k9=>⟨_,?_,rfl⟩)) ?_;· simp [execOp,go_sem,h9])
     refine RV.cc _ (RV.dc (fun γ L a w hH hl hA=>by have h9:=T γ L a w hH;have k9:=hA;simp [Region.binds] at k9;exact ⟨_,_,by simp [go_sem,h9,k9],Calls.mono (HPK.out w) (by rintro e w2 ⟨rfl,rfl⟩;exact ⟨_,rfl,rfl,fun j v _ h=>h,hH.glob.other _ (by decide) (by decide) (by decide) (by decide)⟩)⟩)) ?_
     (refine RV.cc _ (RV.pu T (fun γ v L w hl h=>h.other _ (by decide) (by decide) (by decide) (by decide)) (fun γ L a w hH hl h9 k9=>⟨_,?_,rfl⟩)) ?_;· simp [Region.binds] at k9;simp [execOp,go_sem,h9,k9,w_r1])
     refine RV.cc _ (RV.does_step (fun γ L a w hH hl hA=>by have h9:=T γ L a w hH;have k9:=hA;simp [Region.binds] at k9;have l0:L 4 = true:=hA ⟨4,.data⟩ (by simp) rfl;have e0:=hH.slot 4 109 (by rw [<- hD];rfl) l0;obtain ⟨g,e1,e2⟩:=hH.glob.2.1 l0;rw [e1] at e0;exact ⟨_,w,by simp [execOp,go_sem,h9,k9,e0],trivial,fun j v _ h=>h,hH.glob.put e2⟩)) ?_
     refine RV.cc _ (RV.does_step (fun γ L a w hH hl hA=>by exact ⟨.pointer (some ⟨w.heap.size,0,none⟩),w.alloc (.cells #[.slice none 0 0,.slice none 0 0,.slice none 0 0,.int .i64 0] 36),by simp [execOp,go_sem],trivial,fun j v _ h=>h.keep _,hH.glob.made (RV.ny hH (RV.wt (j:=10) (i:=9) hWA (by kernel_rfl)) hl) _ rfl⟩)) ?_
     refine RV.cc _ (RV.does_store (fun γ L a w hH hl hA=>by have l0:L 9 = true:=hA ⟨9,.data⟩ (by simp) rfl;have l8:L 8 = true:=hA ⟨8,.data⟩ (by simp) rfl;have e0:=hH.slot 9 21 (by rw [<- hD];rfl) l0;have e8:=hH.slot 8 113 (by rw [<- hD];rfl) l8;obtain ⟨b,cs,hb1,hb2,hb3,hb4,_⟩:=hH.glob.2.2.2 l0;obtain ⟨g,q1,q2⟩:=hH.glob.2.2.1 l8;have hfl:=hH.glob.fill hb1 hb2 hb3 hb4 q2;rw [hb1] at e0;rw [q1] at e8;obtain ⟨u0,u1,u2,u3,rfl⟩:=arr4k hb4;have z09:w.cell? ⟨b,0,none⟩ = some u0:=(by simp [World.cell?,hb3]);have z19:w.cell? ⟨b,1,none⟩ = some u1:=(by simp [World.cell?,hb3]);have z29:w.cell? ⟨b,2,none⟩ = some u2:=(by simp [World.cell?,hb3]);have z39:w.cell? ⟨b,3,none⟩ = some u3:=(by simp [World.cell?,hb3]);have zf:∀ o,w.frozen? ⟨b,o,none⟩ = false:=fun o=>(by simp [World.frozen?,hb3]);exact ⟨_,by simp [execOp,go_sem,e0,e8,z09,z19,z29,z39,zf];rfl,trivial,fun j v _ h=>h.keep _,hfl _⟩)) ?_
     exact RV.AllDo.nil
    ·intro γ w5 L9 hL hI9 hG9
     obtain ⟨nb,cs,hb1,hb2,hb3,_,hb5⟩:=hG9.2.2.2 (hL 9 (by decide))
     obtain ⟨gp,hcs,hgp⟩:=hb5 (hL 10 (by decide))
     obtain ⟨g4,hg4,_⟩:=hG9.2.1 (hL 4 (by decide))
     obtain ⟨g8,hg8,_⟩:=hG9.2.2.1 (hL 8 (by decide))
     rw [hcs] at hb3
     have HB5:Hid (Below w0.heap.size w0 w5):=b_step HBZ.out hG9.1
     have HBbz:Hid (Cel w5 bb [.slice bo1 b.P.length bc1,.slice bo2 b.A.length bc2,.slice bo3 b.E.length bc3,.int .i64 b.r]):=HBbz.out.step hG9.1
     have HLB:Hid (Lies w5 (.slice bo1 b.P.length bc1) b.P/\Lies w5 (.slice bo2 b.A.length bc2) b.A/\Lies w5 (.slice bo3 b.E.length bc3) b.E):=⟨HLBz.out.1.below hG9.1,HLBz.out.2.1.below hG9.1,HLBz.out.2.2.below hG9.1⟩
     simp only [RV.putL,Act.put,List.setIfInBounds_toArray,List.set_cons_zero,List.set_cons_succ,Nat.reduceAdd]
     rw [hb1,hg4,hg8]
     have CY:Hid (Cel w5 nb [.slice (some ⟨gp,0,none⟩) 1 1,.slice none 0 0,.slice none 0 0,.int .i64 r1]):=fun k v e=>by match k,e with | 0,e=>cases e;simp [World.cell?,hb3] | 1,e=>cases e;simp [World.cell?,hb3] | 2,e=>cases e;simp [World.cell?,hb3] | 3,e=>cases e;simp [World.cell?,hb3] | n + 4,e=>simp at e
     have CP:Cel w5 gp [.int .i64 ox,.int .i64 oy,.int .i64 oz]:=fun k v e=>by match k,e with | 0,e=>cases e;simp [World.cell?,hgp] | 1,e=>cases e;simp [World.cell?,hgp] | 2,e=>cases e;simp [World.cell?,hgp] | n + 3,e=>simp at e
     have HLP:Hid (Lies w5 (.slice (some ⟨gp,0,none⟩) 1 1) [⟨ox,oy,oz⟩]):=lies_one9 CP
     clear hG9 hI9 hL hb1 hb2 hb3 hb5 hcs hgp hg4 hg8 CP HPK pc0 oc0 oc1 oc2 w_r1 hpn
     have y2:=HBbz.out 2 _ rfl
     by_cases hb16:(16:Int) < (b.E.length:Int)
     ·go_wp2_with (fail)
      go_ret
      exact ⟨rfl,HB5.out⟩
     have y0:=HBbz.out 0 _ rfl
     have y1:=HBbz.out 1 _ rfl
     have y3:=HBbz.out 3 _ rfl
     have z0:=CY.out 0 _ rfl
     have z1:=CY.out 1 _ rfl
     have z2:=CY.out 2 _ rfl
     have z3:=CY.out 3 _ rfl
     go_upto_region 23 with fail
     go_wp2_with (fail)
     refine Calls.mono (HA9.out _ _ HLP.out HLB.out.1 HLB.out.2.1 HLB.out.2.2) ?_
     rintro e w6 ⟨rfl,hb⟩
     obtain ⟨w7,hw7⟩:∃ V,V = w6.alloc (.cells #[.int .i64 ax,.int .i64 ay,.int .i64 az,.int .i64 ag] 41):=⟨_,rfl⟩
     obtain ⟨zb,hzb⟩:∃ b,b = w6.heap.size:=⟨_,rfl⟩
     have hb7:Below w6.heap.size w6 w7:=by rw [hw7];exact n_after _ _
     have CZ:Hid (Cel w7 zb [.int .i64 ax,.int .i64 ay,.int .i64 az,.int .i64 ag]):=by show Cel _ _ _;rw [hw7,hzb];exact Cel.new _ [.int .i64 ax,.int .i64 ay,.int .i64 az,.int .i64 ag] _
     have hb57:Below w5.heap.size w5 w7:=b_step hb hb7
     have HB5:Hid (Below w0.heap.size w0 w7):=b_step HB5.out hb57
     have CY:Hid (Cel _ _ _):=CY.out.step hb57
     have HBbz:Hid (Cel _ _ _):=HBbz.out.step hb57
     have HLP:Hid (Lies _ _ _):=HLP.out.below hb57
     have HLB:Hid (Lies w7 (.slice bo1 b.P.length bc1) b.P/\Lies w7 (.slice bo2 b.A.length bc2) b.A/\Lies w7 (.slice bo3 b.E.length bc3) b.E):=⟨HLB.out.1.below hb57,HLB.out.2.1.below hb57,HLB.out.2.2.below hb57⟩
     clear hb hb57 y0 y1 y2 y3 z0 z1 z2 z3 HA9
     go_upto_region 24 with fail
     rw [<- hw7,<- hzb]
     clear hw7 hzb hb7
     have y0:=HBbz.out 0 _ rfl
     have y1:=HBbz.out 1 _ rfl
     have y2:=HBbz.out 2 _ rfl
     have y3:=HBbz.out 3 _ rfl
     have z0:=CY.out 0 _ rfl
     have z1:=CY.out 1 _ rfl
     have z2:=CY.out 2 _ rfl
     have z3:=CY.out 3 _ rfl
     go_wp2_with (fail)
     refine Calls.mono (HC9.out _ _ HLP.out HLB.out.1 HLB.out.2.1 HLB.out.2.2) ?_
     rintro e w8 ⟨rfl,hb⟩
     obtain ⟨w9,hw9⟩:∃ V,V = w8.alloc (.cells #[.int .i64 dx,.int .i64 dy,.int .i64 dz,.int .i64 dg] 41):=⟨_,rfl⟩
     have hb9:Below w8.heap.size w8 w9:=by rw [hw9];exact n_after _ _
     have CZ:Hid (Cel _ _ _):=(CZ.out.step hb).step hb9
     have HB5:Hid (Below w0.heap.size w0 w9):=b_step (b_step HB5.out hb) hb9
     clear hb y0 y1 y2 y3 z0 z1 z2 z3 HC9 HLP HLB HBbz CY
     go_upto_region 25 with fail
     rw [<- hw9]
     clear hw9 hb9
     have c3:=CZ.out 3 _ rfl
     rcases HST.out with ⟨h1,h2⟩ | ⟨h1,h2⟩
     ·subst h1
      clear HST HKC
      go_wp2_with (fail)
      go_ret
      exact ⟨rfl,HB5.out⟩
     ·clear HST HKC
      have e9:((kc == 16) == decide (0 <= ag)) = true:=by rw [beq_eq_false_iff_ne.2 h1,decide_eq_false (by omega)];rfl
      have HE9:Hid _:=e9
      clear e9 h1 h2
      go_wp2_with (fail)
      go_ret
      exact ⟨by show Ending.returned (Value.bool ((kc == 16) == decide (0 <= ag))) = _;rw [HE9.out],HB5.out⟩
   ·obtain ⟨gm,rfl⟩:∃ m,gk = m + 1:=⟨gk - 1,by omega⟩
    have hk3:k < 3:=by omega
    have hkm:=(HFA.out k hk3).2.1
    obtain ⟨wz,hwz⟩:∃ V,V = wr:=⟨_,rfl⟩
    rw [<- hwz] at HQ
    obtain ⟨cd,hcd⟩:∃ c9,cr [b,c,d] k = c9:=⟨_,rfl⟩
    have hCXz:Cel wz xb [.int .i64 g1,.int .i64 g2,.int .i64 g3,.int .i64 gg]:=CX.out.step HQ.out
    have hABz:Cel wz ab [.slice ao1 a.P.length ac1,.slice ao2 a.A.length ac2,.slice ao3 a.E.length ac3,.int .i64 a.r]:=HAb.out.step HQ.out
    obtain ⟨o9,c9,e9,_,_,hl9⟩:=(HLC.out.below HQ.out).form
    cases e9
    obtain ⟨g9,f9,qv,bv,fv,e9,lc0,lc1,lc2,lc3,m1,m2,m3⟩:=hl9 k hk3
    cases e9
    have hMa:mayC a = true:=HNA.out.1.1
    have hfk:=HFA.out k hk3
    rw [hcd] at lc3 m1 m2 m3 hfk
    simp only [Nat.zero_add] at lc0 lc1 lc2 lc3
    have HCS:Hid _:=fun (w':World) (h:Below wz.heap.size wz w')=>apart_told a cd (.slice ao1 a.P.length ac1) (.slice ao2 a.A.length ac2) (.slice ao3 a.E.length ac3) qv bv fv w' hMa hfk.1 ((HLA.out.1.below HQ.out).below h) ((HLA.out.2.1.below HQ.out).below h) ((HLA.out.2.2.below HQ.out).below h) (m1.below h) (m2.below h) (m3.below h)
    obtain ⟨⟨⟨ax,ay,az⟩,ag⟩,hag⟩:∃ x,told a cd = x:=⟨_,rfl⟩
    rw [hag] at HCS hfk
    dsimp only at HCS hfk
    have HFK:Hid _:=hfk.2.2
    have pc0:=hABz 0 _ rfl
    have pc1:=hABz 1 _ rfl
    have pc2:=hABz 2 _ rfl
    have pc3:=hABz 3 _ rfl
    have hix:(k:Int) < 3:=by omega
    have hix0:(0:Int) <= (k:Int):=by omega
    have HCXz:Hid (Cel wz xb [.int .i64 g1,.int .i64 g2,.int .i64 g3,.int .i64 gg]):=hCXz
    have HRZ:Hid _:=own_below HRY.out HQ.out
    clear hcd hag hl9 m1 m2 m3 hMa hfk hABz hCXz
    go_upto_region 13 with fail
    rw [<- hwz]
    clear hwz
    go_cut [19] from 58 to 104 (fun s19 wx=>∃ nb,s19 = .pointer (some ⟨nb,0,none⟩)/\Hid (Cel wx nb [.int .i64 ax,.int .i64 ay,.int .i64 az,.int .i64 ag])/\Hid (Below Q3.heap.size Q3 wx))
    case first =>
     refine RV.rs [.some (.agg #[.slice ao1 a.P.length ac1,.slice ao2 a.A.length ac2,.slice ao3 a.E.length ac3,.int .i64 a.r]),.some (.slice (some ⟨lb,0,none⟩) 3 3),.some (.int .i64 (k:Int)),.some (.pointer (some ⟨lb,k * 4,none⟩)),.some (.agg #[qv,bv,fv,.int .i64 cd.r]),.some (.tuple #[.agg #[.int .i64 ax,.int .i64 ay,.int .i64 az,.int .i64 ag],.bool true]),.some (.tuple #[.agg #[.int .i64 ax,.int .i64 ay,.int .i64 az,.int .i64 ag],.bool true]),.some (.agg #[.int .i64 ax,.int .i64 ay,.int .i64 az,.int .i64 ag]),.some (.bool true),none,none,.some (.bool true)] [64,65,66,67,68,69,63,70,71,20,0,21] [(8,.pointer (some ⟨ab,0,none⟩)),(12,.slice (some ⟨lb,0,none⟩) 3 3),(18,.int .i64 (k:Int))] (fun γ L w=>Below wz.heap.size wz w/\RV.Pend wz 41 9 10 #[.int .i64 ax,.int .i64 ay,.int .i64 az,.int .i64 ag] γ L w) ⟨rfl,rfl,rfl,trivial⟩ ⟨(Below.refl _ wz).drew,RV.Pend.start rfl⟩ ?_ ?_
     ·intro D WA Z hD hWA hZ T
      simp only [RV.Outs,RV.Slots,Nat.reduceAdd] at T
      (refine RV.cc _ (RV.pu T (fun γ v L w hl h=>⟨h.1,h.2.other _ (by decide) (by decide)⟩) (fun γ L a w hH hl h9 k9=>⟨_,?_,rfl⟩)) ?_;· have q0:=c_after hH.glob.1 pc0;have q1:=c_after hH.glob.1 pc1;have q2:=c_after hH.glob.1 pc2;have q3:=c_after hH.glob.1 pc3;simp [execOp,go_sem,h9,q0,q1,q2,q3])
      iterate 2 (refine RV.cc _ (RV.pu T (fun γ v L w hl h=>⟨h.1,h.2.other _ (by decide) (by decide)⟩) (fun γ L a w hH hl h9 k9=>⟨_,?_,rfl⟩)) ?_;· simp [execOp,go_sem,h9])
      (refine RV.cc _ (RV.pu T (fun γ v L w hl h=>⟨h.1,h.2.other _ (by decide) (by decide)⟩) (fun γ L a w hH hl h9 k9=>⟨_,?_,rfl⟩)) ?_;· simp [Region.binds] at k9;simp [execOp,go_sem,h9,k9,hix,hix0])
      (refine RV.cc _ (RV.pu T (fun γ v L w hl h=>⟨h.1,h.2.other _ (by decide) (by decide)⟩) (fun γ L a w hH hl h9 k9=>⟨_,?_,rfl⟩)) ?_;· have q0:=c_after hH.glob.1 lc0;have q1:=c_after hH.glob.1 lc1;have q2:=c_after hH.glob.1 lc2;have q3:=c_after hH.glob.1 lc3;simp [Region.binds] at k9;simp [execOp,go_sem,h9,k9,q0,q1,q2,q3])
      refine RV.cc _ (RV.dc (fun γ L a w hH hl hA=>by have h9:=T γ L a w hH;have k9:=hA;simp [Region.binds] at k9;exact ⟨_,_,by simp [go_sem,h9,k9],Calls.mono (HCS.out w hH.glob.1) (by rintro e w2 ⟨rfl,hb⟩;exact ⟨_,rfl,rfl,fun j v _ h=>h.keep _,b_step hH.glob.1 hb,(hH.glob.2.below hb).other _ (by decide) (by decide)⟩)⟩)) ?_
      iterate 3 (refine RV.cc _ (RV.pu T (fun γ v L w hl h=>⟨h.1,h.2.other _ (by decide) (by decide)⟩) (fun γ L a w hH hl h9 k9=>⟨_,?_,rfl⟩)) ?_;· simp [Region.binds] at k9;simp [execOp,go_sem,h9,k9])
      refine RV.cc _ (RV.does_step (fun γ L a w hH hl hA=>by have hb9:=n_after w (.cells #[.int .i64 0,.int .i64 0,.int .i64 0,.int .i64 0] 41);exact ⟨.pointer (some ⟨w.heap.size,0,none⟩),w.alloc (.cells #[.int .i64 0,.int .i64 0,.int .i64 0,.int .i64 0] 41),by simp [execOp,go_sem],trivial,fun j v _ h=>h.keep _,b_step hH.glob.1 hb9,RV.Pend.made _ rfl hH.glob.1.size (RV.ny hH (RV.wt (j:=10) (i:=9) hWA (by kernel_rfl)) hl) (by decide)⟩)) ?_
      refine RV.cc _ (RV.does_store (fun γ L a w hH hl hA=>by have h9:=T γ L a w hH;have k9:=hA;simp [Region.binds] at k9;have l0:L 9 = true:=hA ⟨9,.data⟩ (by simp) rfl;have e0:=hH.slot 9 19 (by rw [<- hD];rfl) l0;obtain ⟨b,cs,hb1,hb2,hb3,hb4,_⟩:=hH.glob.2 l0;rw [hb1] at e0;obtain ⟨u0,u1,u2,u3,rfl⟩:=arr4k hb4;have z09:w.cell? ⟨b,0,none⟩ = some u0:=(by simp [World.cell?,hb3]);have z19:w.cell? ⟨b,1,none⟩ = some u1:=(by simp [World.cell?,hb3]);have z29:w.cell? ⟨b,2,none⟩ = some u2:=(by simp [World.cell?,hb3]);have z39:w.cell? ⟨b,3,none⟩ = some u3:=(by simp [World.cell?,hb3]);have zf:∀ o,w.frozen? ⟨b,o,none⟩ = false:=fun o=>(by simp [World.frozen?,hb3]);exact ⟨set4 w b (.int .i64 ax) (.int .i64 ay) (.int .i64 az) (.int .i64 ag),by simp [set4,execOp,go_sem,e0,h9,k9,z09,z19,z29,z39,zf],trivial,fun j v _ h=>h.keep _,set4_below hH.glob.1 hb2 _ _ _ _,RV.Pend.filled hb1 hb2 (by have q0:=Go.heap_setCell_same w b 0 _ _ (.int .i64 ax) hb3;have q1:=Go.heap_setCell_same _ b 1 _ _ (.int .i64 ay) q0;have q2:=Go.heap_setCell_same _ b 2 _ _ (.int .i64 az) q1;have q3:=Go.heap_setCell_same _ b 3 _ _ (.int .i64 ag) q2;simpa [set4] using q3) (by decide) _⟩)) ?_
      (refine RV.cc _ (RV.pu T (fun γ v L w hl h=>⟨h.1,h.2.other _ (by decide) (by decide)⟩) (fun γ L a w hH hl h9 k9=>⟨_,?_,rfl⟩)) ?_;· simp [Region.binds] at k9;simp [execOp,go_sem,h9,k9])
      exact RV.AllDo.nil
     ·intro γ w5 L9 hL hI9 hG9
      obtain ⟨nb,cs,hb1,hb2,hb3,_,hb5⟩:=hG9.2 (hL 9 (by decide))
      rw [hb5 (hL 10 (by decide))] at hb3
      have HB5:Hid (Below _ _ _):=hG9.1
      simp only [RV.putL,Act.put,List.setIfInBounds_toArray,List.set_cons_zero,List.set_cons_succ,Nat.reduceAdd]
      rw [hb1]
      have CY:Hid (Cel w5 nb [.int .i64 ax,.int .i64 ay,.int .i64 az,.int .i64 ag]):=fun k v e=>by match k,e with | 0,e=>cases e;simp [World.cell?,hb3] | 1,e=>cases e;simp [World.cell?,hb3] | 2,e=>cases e;simp [World.cell?,hb3] | 3,e=>cases e;simp [World.cell?,hb3] | n + 4,e=>simp at e
      clear hG9 hI9 hL hb1 hb2 hb3 hb5
      have HBQ:Hid _:=b_step HQ.out HB5.out
      clear HCS lc0 lc1 lc2 lc3 pc0 pc1 pc2 pc3
      go_wp2_with (fail)
      go_meet
      case rel=>exact ⟨nb,rfl,CY,HBQ⟩
    case rest =>
     obtain ⟨nb,rfl,CY,HBQ⟩:=hcut
     have c3:=CY.out 3 _ rfl
     have HCX9:Hid (Cel _ _ _):=CX.out.step HBQ.out
     have d3:=HCX9.out 3 _ rfl
     have HRW:Hid _:=own_below HRY.out HBQ.out
     obtain ⟨f1,f2,f3,f4⟩:=HFK.out
     clear HCS lc0 lc1 lc2 lc3 pc0 pc1 pc2 pc3 HFK HCXz HRZ
     have hnl:¬ ag < gg:=by omega
     have hij:ag = gg->¬ (k:Int) < (j:Int):=fun e h=>by have:=f2 (by omega);omega
     by_cases hone:ag < 1
     ·obtain ⟨q1,q2,q3⟩:=f3 hone
      obtain ⟨g9,rfl,hcell⟩:=over_cell HRW.out q1
      have hmn:¬ (on:Int) <= (mm k:Int):=by have:=HML.out;omega
      have hmn2:(mm k:Int) < (on:Int):=by omega
      obtain ⟨mk,hmk⟩:∃ n,mm k = n:=⟨_,rfl⟩
      rw [hmk] at hcell hmn hmn2 q3 hkm ⊢
      clear q1 q2 f1 f2 f3 f4 HRW
      by_cases heq:ag = gg
      ·have hij2:=hij heq
       clear hij
       subst heq
       go_wp2_with (fail)
       go_roundg gm
       case rel=>exact ⟨k + 1,by omega,by go_num,by rw [q3];go_num,HBQ⟩
       omega
      ·clear hij
       go_wp2_with (fail)
       go_roundg gm
       case rel=>exact ⟨k + 1,by omega,by go_num,by rw [q3];go_num,HBQ⟩
       omega
     ·have q3:=f4 (by omega)
      clear f1 f2 f3 f4 HRW
      by_cases heq:ag = gg
      ·have hij2:=hij heq
       clear hij
       subst heq
       go_wp2_with (fail)
       go_roundg gm
       case rel=>exact ⟨k + 1,by omega,by go_num,by rw [q3],HBQ⟩
       omega
      ·clear hij
       go_wp2_with (fail)
       go_roundg gm
       case rel=>exact ⟨k + 1,by omega,by go_num,by rw [q3],HBQ⟩
       omega
theorem lifted (os:Os) (started:os.Started) (H:Type) (enc:TypeId × Value->H) :
  ReturnsInHanded {} Tryz.checked os 4 .any (Rows.sweepNearestSpec.pre6 enc Tryz.prog Tryz.f4 Rows.sweepNearestRow.domain false) (Rows.sweepNearestSpec.post enc Tryz.prog Tryz.f4 false true false false):=by
 refine returnsInHanded_of_change (C:=Tryz.checked) own started (by kernel_rfl) Tryz.func4
  (ChangeSpec.witness6 (enc:=enc) (C:=Tryz.checked) false ⟨#[],#[.agg #[.int .i64 0,.int .i64 0,.int .i64 0,.int .i64 0,.int .i64 0,.slice none 0 0,.int .i64 0,.int .i64 0,.int .i64 0,.int .i64 0,.int .i64 0,.slice none 0 0,.int .i64 0,.int .i64 0,.int .i64 0,.int .i64 0,.int .i64 0,.int .i64 0,.int .i64 0,.int .i64 0,.int .i64 0,.int .i64 0,.int .i64 0,.int .i64 0,.int .i64 0,.int .i64 0,.int .i64 0,.int .i64 0,.int .i64 0,.int .i64 0],.agg #[.int .i64 0,.int .i64 0,.int .i64 0,.int .i64 0,.int .i64 0,.slice none 0 0,.int .i64 0,.int .i64 0,.int .i64 0,.int .i64 0,.int .i64 0,.slice none 0 0,.int .i64 0,.int .i64 0,.int .i64 0,.int .i64 0,.int .i64 0,.int .i64 0,.int .i64 0,.int .i64 0,.int .i64 0,.int .i64 0,.int .i64 0,.int .i64 0,.int .i64 0,.int .i64 0,.int .i64 0,.int .i64 0,.int .i64 0,.int .i64 0],.int .i64 0],[]⟩ 8 (by kernel_rfl) (by kernel_rfl) (by kernel_rfl) (by kernel_rfl)) ?_
 intro W base args ds gs before hval0 hW hcnd _
 have hval:∀ (j:Nat) t v,Tryz.f4.params[j]? = some t->args[j]? = some v->Value.okWide Tryz.prog W .any base t v:=hval0
 have hW':=hW
 obtain ⟨p,q,hA0,hV,rfl,hfz,hnd⟩:=hW
 have hA:DataW.TrodAll enc Tryz.prog W 0 (fun _=>true) true Tryz.f4.params.toList args.toList ds p:=hA0
 rw [Tryz.params4] at hA hval
 obtain ⟨v0,vs0,d0,ds0,p0,q0,hargs,rfl,rfl,h0,r0⟩:=trodAll_cons hA
 obtain ⟨v1,vs1,d1,ds1,p1,q1,rfl,rfl,rfl,h1,r1⟩:=trodAll_cons r0
 obtain ⟨v2,vs2,d2,ds2,p2,q2,rfl,rfl,rfl,h2,r2⟩:=trodAll_cons r1
 obtain ⟨rfl,rfl,rfl⟩:=trodAll_nil r2
 obtain rfl:args = #[v0,v1,v2]:=by cases args;simp_all
 obtain ⟨rfl,rfl⟩:=trodVars_none hV
 have k0:=h0
 have lt0:∀ x ∈ p0,x.block < W.heap.size:=by obtain ⟨m,hm⟩:=k0;exact DataW.trod_lt m _ _ _ hm
 obtain ⟨k1t,r1t,x1t,y1t,z1t,o1t,L1t,c1t,k2t,r2t,x2t,y2t,z2t,o2t,L2t,c2t,p0t,p1t,p2t,p3t,p4t,p5t,p6t,q0t,q1t,q2t,q3t,q4t,q5t,q6t,nrt,wxt,wyt,wzt,rfl,hL1t,hF1t,hL2t,hF2t,hbst⟩:=open_two (hval 0 33 v0 rfl rfl) h0
 have k1:=h1
 have lt1:∀ x ∈ p1,x.block < W.heap.size:=by obtain ⟨m,hm⟩:=k1;exact DataW.trod_lt m _ _ _ hm
 obtain ⟨k1u,r1u,x1u,y1u,z1u,o1u,L1u,c1u,k2u,r2u,x2u,y2u,z2u,o2u,L2u,c2u,p0u,p1u,p2u,p3u,p4u,p5u,p6u,q0u,q1u,q2u,q3u,q4u,q5u,q6u,nru,wxu,wyu,wzu,rfl,hL1u,hF1u,hL2u,hF2u,hbsu⟩:=open_two (hval 1 33 v1 rfl rfl) h1
 obtain ⟨a2,rfl,rfl,rfl,w2⟩:=open_int Tryz.underlying3 (hval 2 3 v2 rfl rfl) h2
 have b2:=bounds_i64 w2
 clear hA0 hval0
 refine (walk k1t r1t x1t y1t z1t o1t L1t c1t k2t r2t x2t y2t z2t o2t L2t c2t p0t p1t p2t p3t p4t p5t p6t q0t q1t q2t q3t q4t q5t q6t nrt wxt wyt wzt k1u r1u x1u y1u z1u o1u L1u c1u k2u r2u x2u y2u z2u o2u L2u c2u p0u p1u p2u p3u p4u p5u p6u q0u q1u q2u q3u q4u q5u q6u nru wxu wyu wzu a2 W hbst hL1t hF1t hL2t hF2t hbsu hL1u hF1u hL2u hF2u (by omega)).mono fun e W' ⟨he,bel⟩=>?_
 subst he
 exact ⟨_,rfl,_,_,_,[],_,[],hW',trodAll_mk1 (shut_bool Tryz.underlying4 _),(trodAll_cons_mk (Below.trod laidOut (by kernel_rfl) (of_decide_eq_true (by kernel_rfl)) k0 bel lt0) (trodAll_cons_mk (Below.trod laidOut (by kernel_rfl) (of_decide_eq_true (by kernel_rfl)) k1 bel lt1) (trodAll_cons_mk (shut_int Tryz.underlying3 w2) trodAll_mk0))),rfl,bel.frame _,fun h=>by cases h⟩
theorem over:Rows.sweepNearestRow.holds Tryz.pinned (OpenSpec.ofChange Rows.sweepNearestSpec):=
 OpenClaim.holds_of_wide 4 Tryz.f4 rfl rfl rfl rfl rfl rfl rfl ⟨rfl,rfl,rfl,rfl,rfl⟩ rfl rfl rfl rfl rfl (by kernel_rfl) Tryz.func4 (by kernel_rfl)
  (of_decide_eq_true (by kernel_rfl)) (by unfold Func.isWrapper;first | (rw [if_pos (by decide +kernel)];kernel_rfl) | (rw [if_neg (by decide +kernel)];exact ⟨rfl,rfl⟩))
  (fun os started H enc _=>lifted os started H enc)
end sweepNearest
theorem sweepNearest_holds:Rows.SweepNearestSaid:=sweepNearest.over
#print axioms sweepNearest_holds
end
end Go.Proofs.YtohbjabihdgjhaaGreat
