/- A ray's part is free of all cores, and the one that it tells is not free a part later, or holds where it begins: for all raw shapes and poses, points and ways. -/
import Derived.Test.YtgbofpbidbhleaaGreatSSRays23
import Derived.Test.YtgbofpbidbhleaaGreatSSRays10
import Derived.Test.YtgbofpbidbhleaaGreatSSRays1
import Derived.Test.YtgbofpbidbhleaaGreatSSRays24
import Derived.Deep.MidRow
import Derived.Deep.CutRange
import Derived.Deep.LoopGhost
import Derived.Test.YtgbofpbidbhleaaGreatRows
import Derived.ProofKit
import Derived.OpenShut
set_option maxHeartbeats 32000000
set_option maxRecDepth 100000
set_option linter.unusedVariables false
namespace Go.Proofs.YtgbofpbidbhleaaGreat
section
namespace sweepRays
open Go.ChangeShapes Go.WideShapes Go.ChangeAt Go.RowKit Go.Shelf
theorem own:ownKnob Tryz.prog.godebug = none:=by kernel_rfl
theorem laidOut:laidOutB Tryz.prog = true:=by kernel_rfl
theorem castF_le (a:Cr) (w:Pt) (b:Cr):∀ (n k:Nat) (x:Pt × Int),(castF a w b n k x).1 <= k + n
 | 0,k,x=>Nat.le_refl _
 | n + 1,k,x=>by
  unfold castF
  split
  ·show k <= _;omega
  ·have:=castF_le a w b n (k + 1) (apP (trailC a w (k + 1)) b);omega
theorem cast_le (a:Cr) (w:Pt) (b:Cr):(castR a w b).1 <= 16:=by
 unfold castR
 split
 ·split
  ·exact Nat.zero_le _
  ·have:=castF_le a w b 16 0 (apP a b);omega
 ·exact Nat.zero_le _
theorem dot_cast {p w:Pt} {c:Cr} (hp:p.inB 8421376 = true) (hw:w.inB 65536 = true) (hc:mayC c = true):castB (dotC p) w c = true:=by
 have h1:mayC (dotC p) = true:=by
  unfold mayC dotC
  simp [inB_mono hp (show (8421376:Int) <= 16777216 by decide)]
 have hg:goB (dotC p) w = true:=go_of h1 (by show (1:Nat) <= 16;decide) (inB_mono hw (by decide))
 have hm:(p.mov w).inB 16777216 = true:=by rw [Pt.inB_iff] at hp hw ⊢;unfold Pt.mov;dsimp only;omega
 unfold castB
 rw [hg,hc]
 simp [dotC,hm]
theorem rays_facts {P:Cr} {w:Pt} {a b:Cr} (ha:castB P w a = true) (hb:castB P w b = true) :
  ∃ (nI pI:Int) (is:Bool),rayV P w [a,b] = .tuple #[.int .i64 nI,.int .i64 pI,.bool is]/\(∀ i,i < 2->castB P w (cr [a,b] i) = true) /\
   ((is = false/\nI = -1/\pI = 16/\∀ i,i < 2->(castR P w (cr [a,b] i)).1 = 16/\0 <= (castR P w (cr [a,b] i)).2.2) \/
   (∃ j y:Nat,is = true/\nI = (j:Int)/\pI = (y:Int)/\j < 2/\y < 16/\(castR P w (cr [a,b] j)).1 = y/\∀ i,i < 2->y <= (castR P w (cr [a,b] i)).1/\(i < j->(castR P w (cr [a,b] i)).1 ≠ y))):=by
 have hg:goB P w = true:=(cast_parts ha).1
 have hc:∀ i,i < 2->castB P w (cr [a,b] i) = true:=fun i hi=>by
  match i,hi with
  | 0,_=>exact ha
  | 1,_=>exact hb
 unfold rayV
 rw [if_pos hg]
 cases hk:bestK (rayT P w) rayB [a,b] [a,b].length with
 | none =>
  refine ⟨_,_,_,rfl,hc,Or.inl ⟨rfl,rfl,rfl,fun i hi=>?_⟩⟩
  have h:=bestK_none (rayT P w) rayB [a,b] 2 hk i hi
  unfold rayT at h
  rw [hc i hi,Bool.true_and] at h
  by_cases hl:(castR P w (cr [a,b] i)).1 < 16
  ·rw [if_pos (by simpa using hl)] at h;cases h
  ·have e:(castR P w (cr [a,b] i)).1 = 16:=by have:=cast_le P w (cr [a,b] i);omega
   exact ⟨e,cast_full (hc i hi) e⟩
 | some x =>
  obtain ⟨j,y⟩:=x
  obtain ⟨hj,ht⟩:=bestK_lt (rayT P w) rayB [a,b] 2 j y hk
  have hy:(castR P w (cr [a,b] j)).1 = y/\y < 16:=by
   unfold rayT at ht
   split at ht
   ·next h =>
    simp only [Bool.and_eq_true,decide_eq_true_eq] at h
    cases ht
    exact ⟨rfl,h.2⟩
   ·cases ht
  refine ⟨_,_,_,rfl,hc,Or.inr ⟨j,y,rfl,rfl,rfl,hj,hy.2,hy.1,fun i hi=>?_⟩⟩
  by_cases hl:(castR P w (cr [a,b] i)).1 < 16
  ·have hr:rayT P w (cr [a,b] i) = some (castR P w (cr [a,b] i)).1:=by unfold rayT;rw [if_pos (by rw [hc i hi];simpa using hl)]
   have:=ray_least hk hi hr
   exact ⟨this.1,fun h=>by have:=this.2 h;omega⟩
  ·exact ⟨by omega,fun _=>by omega⟩
theorem walk (k1t r1t x1t y1t z1t:Int) (o1t:Option Addr) (L1t:List Pt) (c1t:Nat) (k2t r2t x2t y2t z2t:Int) (o2t:Option Addr) (L2t:List Pt) (c2t:Nat) (p0t p1t p2t p3t p4t p5t p6t q0t q1t q2t q3t q4t q5t q6t nrt wxt wyt wzt:Int) (fx fy fz vx vy vz:Int) (w0:World) (hbt:∀ v ∈ ([k1t,r1t,x1t,y1t,z1t,k2t,r2t,x2t,y2t,z2t,p0t,p1t,p2t,p3t,p4t,p5t,p6t,q0t,q1t,q2t,q3t,q4t,q5t,q6t,nrt,wxt,wyt,wzt]:List Int),-9223372036854775808 <= v/\v <= 9223372036854775807) (hL1t:Lies w0 (.slice o1t L1t.length c1t) L1t) (hF1t:∀ p ∈ L1t,p.fits) (hL2t:Lies w0 (.slice o2t L2t.length c2t) L2t) (hF2t:∀ p ∈ L2t,p.fits) (bfx:-9223372036854775808 <= fx/\fx <= 9223372036854775807) (bfy:-9223372036854775808 <= fy/\fy <= 9223372036854775807) (bfz:-9223372036854775808 <= fz/\fz <= 9223372036854775807) (bvx:-9223372036854775808 <= vx/\vx <= 9223372036854775807) (bvy:-9223372036854775808 <= vy/\vy <= 9223372036854775807) (bvz:-9223372036854775808 <= vz/\vz <= 9223372036854775807) :
  Calls Tryz.prog 5 #[.agg #[.int .i64 k1t,.int .i64 r1t,.int .i64 x1t,.int .i64 y1t,.int .i64 z1t,.slice o1t L1t.length c1t,.int .i64 k2t,.int .i64 r2t,.int .i64 x2t,.int .i64 y2t,.int .i64 z2t,.slice o2t L2t.length c2t,.int .i64 p0t,.int .i64 p1t,.int .i64 p2t,.int .i64 p3t,.int .i64 p4t,.int .i64 p5t,.int .i64 p6t,.int .i64 q0t,.int .i64 q1t,.int .i64 q2t,.int .i64 q3t,.int .i64 q4t,.int .i64 q5t,.int .i64 q6t,.int .i64 nrt,.int .i64 wxt,.int .i64 wyt,.int .i64 wzt],.agg #[.int .i64 fx,.int .i64 fy,.int .i64 fz],.agg #[.int .i64 vx,.int .i64 vy,.int .i64 vz]] w0 fun e w'=>e = .returned (.bool true)/\Below w0.heap.size w0 w':=by
 have HC1:Hid _:=fun w' (h:Below w0.heap.size w0 w')=>cores_any k1t r1t x1t y1t z1t o1t L1t c1t k2t r2t x2t y2t z2t o2t L2t c2t p0t p1t p2t p3t p4t p5t p6t q0t q1t q2t q3t q4t q5t q6t nrt wxt wyt wzt w' hbt (hL1t.below h) hF1t (hL2t.below h) hF2t
 have AW:Hid _:=fun W=>wawake_any W
 have HWx:Hid _:=fun W=>wpick_b fx 65536 W bfx (by decide) (by decide)
 have HVx:Hid _:=fun W=>wpick_b vx 131072 W bvx (by decide) (by decide)
 have HWy:Hid _:=fun W=>wpick_b fy 65536 W bfy (by decide) (by decide)
 have HVy:Hid _:=fun W=>wpick_b vy 131072 W bvy (by decide) (by decide)
 have HWz:Hid _:=fun W=>wpick_b fz 65536 W bfz (by decide) (by decide)
 have HVz:Hid _:=fun W=>wpick_b vz 131072 W bvz (by decide) (by decide)
 obtain ⟨gx,hgx⟩:∃ x,pickY fx 65536 = x:=⟨_,rfl⟩
 have lgx:=pickY_lo fx (n:=65536) (by decide)
 have mgx:=pickY_hi fx (n:=65536) (by decide)
 rw [hgx] at HWx lgx mgx
 obtain ⟨ex,hex⟩:∃ x,pickY vx 131072 = x:=⟨_,rfl⟩
 have lex:=pickY_lo vx (n:=131072) (by decide)
 have mex:=pickY_hi vx (n:=131072) (by decide)
 rw [hex] at HVx lex mex
 obtain ⟨gy,hgy⟩:∃ x,pickY fy 65536 = x:=⟨_,rfl⟩
 have lgy:=pickY_lo fy (n:=65536) (by decide)
 have mgy:=pickY_hi fy (n:=65536) (by decide)
 rw [hgy] at HWy lgy mgy
 obtain ⟨ey,hey⟩:∃ x,pickY vy 131072 = x:=⟨_,rfl⟩
 have ley:=pickY_lo vy (n:=131072) (by decide)
 have mey:=pickY_hi vy (n:=131072) (by decide)
 rw [hey] at HVy ley mey
 obtain ⟨gz,hgz⟩:∃ x,pickY fz 65536 = x:=⟨_,rfl⟩
 have lgz:=pickY_lo fz (n:=65536) (by decide)
 have mgz:=pickY_hi fz (n:=65536) (by decide)
 rw [hgz] at HWz lgz mgz
 obtain ⟨ez,hez⟩:∃ x,pickY vz 131072 = x:=⟨_,rfl⟩
 have lez:=pickY_lo vz (n:=131072) (by decide)
 have mez:=pickY_hi vz (n:=131072) (by decide)
 rw [hez] at HVz lez mez
 clear hbt hL1t hF1t hL2t hF2t bfx bfy bfz bvx bvy bvz hgx hgy hgz hex hey hez
 obtain ⟨A1,hA1⟩:∃ V,V = w0.alloc (.cells #[.int .i64 k1t,.int .i64 r1t,.int .i64 x1t,.int .i64 y1t,.int .i64 z1t,.slice o1t L1t.length c1t,.int .i64 k2t,.int .i64 r2t,.int .i64 x2t,.int .i64 y2t,.int .i64 z2t,.slice o2t L2t.length c2t,.int .i64 p0t,.int .i64 p1t,.int .i64 p2t,.int .i64 p3t,.int .i64 p4t,.int .i64 p5t,.int .i64 p6t,.int .i64 q0t,.int .i64 q1t,.int .i64 q2t,.int .i64 q3t,.int .i64 q4t,.int .i64 q5t,.int .i64 q6t,.int .i64 nrt,.int .i64 wxt,.int .i64 wyt,.int .i64 wzt] 33):=⟨_,rfl⟩
 obtain ⟨A2,hA2⟩:∃ V,V = A1.alloc (.cells #[.int .i64 fx,.int .i64 fy,.int .i64 fz] 23):=⟨_,rfl⟩
 obtain ⟨W1,hW1⟩:∃ V,V = A2.alloc (.cells #[.int .i64 vx,.int .i64 vy,.int .i64 vz] 23):=⟨_,rfl⟩
 have z1:A1.heap.size = w0.heap.size + 1:=by rw [hA1,World.size_alloc]
 have z2:A2.heap.size = w0.heap.size + 1 + 1:=by rw [hA2,World.size_alloc,z1]
 have k1:=n_after w0 (.cells #[.int .i64 k1t,.int .i64 r1t,.int .i64 x1t,.int .i64 y1t,.int .i64 z1t,.slice o1t L1t.length c1t,.int .i64 k2t,.int .i64 r2t,.int .i64 x2t,.int .i64 y2t,.int .i64 z2t,.slice o2t L2t.length c2t,.int .i64 p0t,.int .i64 p1t,.int .i64 p2t,.int .i64 p3t,.int .i64 p4t,.int .i64 p5t,.int .i64 p6t,.int .i64 q0t,.int .i64 q1t,.int .i64 q2t,.int .i64 q3t,.int .i64 q4t,.int .i64 q5t,.int .i64 q6t,.int .i64 nrt,.int .i64 wxt,.int .i64 wyt,.int .i64 wzt] 33)
 have k3:=n_after A1 (.cells #[.int .i64 fx,.int .i64 fy,.int .i64 fz] 23)
 have k4:=n_after A2 (.cells #[.int .i64 vx,.int .i64 vy,.int .i64 vz] 23)
 rw [<- hA1] at k1
 rw [<- hA2] at k3
 rw [<- hW1] at k4
 obtain ⟨tb,htb⟩:∃ b,b = w0.heap.size:=⟨_,rfl⟩
 obtain ⟨fb,hfb⟩:∃ b,b = w0.heap.size + 1:=⟨_,rfl⟩
 obtain ⟨vb,hvb⟩:∃ b,b = w0.heap.size + 1 + 1:=⟨_,rfl⟩
 have n1:=Cel.new w0 [.int .i64 k1t,.int .i64 r1t,.int .i64 x1t,.int .i64 y1t,.int .i64 z1t,.slice o1t L1t.length c1t,.int .i64 k2t,.int .i64 r2t,.int .i64 x2t,.int .i64 y2t,.int .i64 z2t,.slice o2t L2t.length c2t,.int .i64 p0t,.int .i64 p1t,.int .i64 p2t,.int .i64 p3t,.int .i64 p4t,.int .i64 p5t,.int .i64 p6t,.int .i64 q0t,.int .i64 q1t,.int .i64 q2t,.int .i64 q3t,.int .i64 q4t,.int .i64 q5t,.int .i64 q6t,.int .i64 nrt,.int .i64 wxt,.int .i64 wyt,.int .i64 wzt] 33
 have n3:=CelW.new A1 [.int .i64 fx,.int .i64 fy,.int .i64 fz] 23
 have n4:=CelW.new A2 [.int .i64 vx,.int .i64 vy,.int .i64 vz] 23
 rw [<- hA1,<- htb] at n1
 rw [<- hA2,z1,<- hfb] at n3
 rw [<- hW1,z2,<- hvb] at n4
 have m1:=(n1.step k3).step k4
 have CF:Hid (CelW W1 fb [.int .i64 fx,.int .i64 fy,.int .i64 fz]):=n3.step k4
 have CV:Hid (CelW W1 vb [.int .i64 vx,.int .i64 vy,.int .i64 vz]):=n4
 have hB1:Below w0.heap.size w0 W1:=b_step (b_step k1 k3) k4
 have hlv:=CelW.lt CV.out
 have HS:Hid (SB w0 W1 W1.heap.size fb vb [(tb,[.int .i64 k1t,.int .i64 r1t,.int .i64 x1t,.int .i64 y1t,.int .i64 z1t,.slice o1t L1t.length c1t,.int .i64 k2t,.int .i64 r2t,.int .i64 x2t,.int .i64 y2t,.int .i64 z2t,.slice o2t L2t.length c2t,.int .i64 p0t,.int .i64 p1t,.int .i64 p2t,.int .i64 p3t,.int .i64 p4t,.int .i64 p5t,.int .i64 p6t,.int .i64 q0t,.int .i64 q1t,.int .i64 q2t,.int .i64 q3t,.int .i64 q4t,.int .i64 q5t,.int .i64 q6t,.int .i64 nrt,.int .i64 wxt,.int .i64 wyt,.int .i64 wzt])] []):=⟨hB1,Nat.le_refl _,(by have:=CelW.lt CF.out;omega),fun p hp=>(by rw [List.mem_singleton.1 hp];exact m1),fun p hp=>(by rw [List.mem_singleton.1 hp];(show tb ≠ fb/\tb ≠ vb;omega)),(fun p hp=>by cases hp),(fun p hp=>by cases hp)⟩
 have HLT:Hid (w0.heap.size <= fb/\w0.heap.size <= vb/\fb ≠ vb/\tb < fb):=by show _/\_;omega
 clear n1 n3 n4 m1 hB1 hlv k1 k3 k4
 go_enter Tryz.func5,Tryz.ntmps5
 go_upto_region 1 with fail
 rw [<- hA1,<- hA2,<- hW1,<- hvb,<- hfb,<- htb]
 clear hW1 hA1 hA2 z1 z2 htb hfb hvb
 go_wp2_with (fail)
 refine Calls.mono (AW.out _) ?_
 rintro e V1 ⟨rfl,hb⟩
 have HS:Hid _:=HS.out.step hb
 have CF:Hid (CelW _ _ _):=CF.out.step hb
 have CV:Hid (CelW _ _ _):=CV.out.step hb
 clear hb AW
 have HRG:Hid (World.rangeAt V1 tb 0 [.int .i64 k1t,.int .i64 r1t,.int .i64 x1t,.int .i64 y1t,.int .i64 z1t,.slice o1t L1t.length c1t,.int .i64 k2t,.int .i64 r2t,.int .i64 x2t,.int .i64 y2t,.int .i64 z2t,.slice o2t L2t.length c2t,.int .i64 p0t,.int .i64 p1t,.int .i64 p2t,.int .i64 p3t,.int .i64 p4t,.int .i64 p5t,.int .i64 p6t,.int .i64 q0t,.int .i64 q1t,.int .i64 q2t,.int .i64 q3t,.int .i64 q4t,.int .i64 q5t,.int .i64 q6t,.int .i64 nrt,.int .i64 wxt,.int .i64 wyt,.int .i64 wzt]):=fun j v e=>by rw [Nat.zero_add];exact (HS.out.bx _ ms) j v e
 go_wp2_with (refine wpList_load_mid rfl 33 _ rfl tb 0 rfl _ _ HRG.out Tryz.underlying33 rfl (by kernel_rfl) ?_)
 refine Calls.mono (HC1.out _ HS.out.below) ?_
 rintro e V2 ⟨a,b,av1,av2,av3,bv1,bv2,bv3,rfl,HLI,hNa,hNb,hRa,hRb,HFR⟩
 obtain ⟨hl1,hl2,hl3,hl4,hl5,hl6,hb⟩:=HLI.out
 obtain ⟨ao1,ac1,rfl,_⟩:=hl1.form
 obtain ⟨ao2,ac2,rfl,_⟩:=hl2.form
 obtain ⟨ao3,ac3,rfl,_⟩:=hl3.form
 obtain ⟨bo1,bc1,rfl,_⟩:=hl4.form
 obtain ⟨bo2,bc2,rfl,_⟩:=hl5.form
 obtain ⟨bo3,bc3,rfl,_⟩:=hl6.form
 obtain ⟨hf1,hf2,hf3,hf4,hf5,hf6⟩:=HFR.out
 have hn9:=HS.out.hn
 have HS:Hid _:=(((((((HS.out.step hb).lay hl6 (hf6.le hn9)).lay hl5 (hf5.le hn9)).lay hl4 (hf4.le hn9)).lay hl3 (hf3.le hn9)).lay hl2 (hf2.le hn9)).lay hl1 (hf1.le hn9))
 have CF:Hid (CelW _ _ _):=CF.out.step hb
 have CV:Hid (CelW _ _ _):=CV.out.step hb
 clear HLI hl1 hl2 hl3 hl4 hl5 hl6 hb HC1 HRG HFR hf1 hf2 hf3 hf4 hf5 hf6 hn9
 obtain ⟨V2x,hX⟩:∃ V,V = (V2.alloc (.cells #[.slice ao1 a.P.length ac1,.slice ao2 a.A.length ac2,.slice ao3 a.E.length ac3,.int .i64 a.r] 35)).alloc (.cells #[.slice bo1 b.P.length bc1,.slice bo2 b.A.length bc2,.slice bo3 b.E.length bc3,.int .i64 b.r] 35):=⟨_,rfl⟩
 obtain ⟨ab,hab⟩:∃ b,b = V2.heap.size:=⟨_,rfl⟩
 obtain ⟨bb,hbb⟩:∃ b,b = V2.heap.size + 1:=⟨_,rfl⟩
 have hbx:Below V2.heap.size V2 V2x:=by rw [hX];exact b_step (n_after _ _) (n_after _ _)
 have n2:=Cel.new (V2.alloc (.cells #[.slice ao1 a.P.length ac1,.slice ao2 a.A.length ac2,.slice ao3 a.E.length ac3,.int .i64 a.r] 35)) [.slice bo1 b.P.length bc1,.slice bo2 b.A.length bc2,.slice bo3 b.E.length bc3,.int .i64 b.r] 35
 rw [World.size_alloc] at n2
 have m1:Cel V2x ab [.slice ao1 a.P.length ac1,.slice ao2 a.A.length ac2,.slice ao3 a.E.length ac3,.int .i64 a.r]:=by rw [hX,hab];exact (Cel.new _ [.slice ao1 a.P.length ac1,.slice ao2 a.A.length ac2,.slice ao3 a.E.length ac3,.int .i64 a.r] _).step (n_after _ _)
 have m2:Cel V2x bb [.slice bo1 b.P.length bc1,.slice bo2 b.A.length bc2,.slice bo3 b.E.length bc3,.int .i64 b.r]:=by rw [hX,hbb];exact n2
 have hn9:=HS.out.hn
 have HS:Hid _:=((HS.out.step hbx).add m2 (by omega)).add m1 (by omega)
 have CF:Hid (CelW _ _ _):=CF.out.step hbx
 have CV:Hid (CelW _ _ _):=CV.out.step hbx
 clear n2 m1 m2 hn9
 go_upto_region 3 with fail
 rw [<- hX,<- hbb,<- hab]
 clear hX hab hbb hbx
 have HAb:Hid (Cel V2x ab [.slice ao1 a.P.length ac1,.slice ao2 a.A.length ac2,.slice ao3 a.E.length ac3,.int .i64 a.r]):=HS.out.bx _ ms
 have HBb:Hid (Cel V2x bb [.slice bo1 b.P.length bc1,.slice bo2 b.A.length bc2,.slice bo3 b.E.length bc3,.int .i64 b.r]):=HS.out.bx _ (mc (ms))
 have xa2:=HAb.out 2 _ rfl
 have xb2:=HBb.out 2 _ rfl
 by_cases ha16:(16:Int) < (a.E.length:Int)
 ·go_wp2_with (fail)
  go_ret
  exact ⟨rfl,HS.out.below⟩
 by_cases hb16:(16:Int) < (b.E.length:Int)
 ·go_wp2_with (fail)
  go_ret
  exact ⟨rfl,HS.out.below⟩
 obtain ⟨fa1,fa2,_,_⟩:=may_facts hNa.1
 have hla:=HS.out.lz (.slice ao1 a.P.length ac1,a.P) ms
 obtain ⟨o',cap',e',_,_,hcl⟩:=hla.form
 cases e'
 obtain ⟨ge,fe,rfl,y0,y1,y2⟩:=hcl 0 fa1
 have hin:=hNa.2.2 _ (pt_mem fa1)
 obtain ⟨⟨ox,oy,oz⟩,hpe⟩:∃ x,pt a.P 0 = x:=⟨_,rfl⟩
 rw [hpe] at y0 y1 y2 hin
 rw [Pt.inB_iff] at hin
 dsimp only at y0 y1 y2 hin
 have hpl:(0:Int) < (a.P.length:Int):=by omega
 have xa0:=HAb.out 0 _ rfl
 obtain ⟨X,hX⟩:∃ V,V = V2x.alloc (.cells #[.int .i64 ox,.int .i64 oy,.int .i64 oz] 23):=⟨_,rfl⟩
 obtain ⟨ob,hob⟩:∃ b,b = V2x.heap.size:=⟨_,rfl⟩
 have hbx:Below V2x.heap.size V2x X:=by rw [hX];exact n_after _ _
 have mo:Cel X ob [.int .i64 ox,.int .i64 oy,.int .i64 oz]:=by rw [hX,hob];exact Cel.new _ [.int .i64 ox,.int .i64 oy,.int .i64 oz] _
 have HOB:Hid (fb < ob/\vb < ob):=by have h1:=CelW.lt CF.out;have h2:=CelW.lt CV.out;show _/\_;omega
 have hn9:=HS.out.hn
 have HS:Hid _:=(HS.out.step hbx).add mo (by omega)
 have CF:Hid (CelW _ _ _):=CF.out.step hbx
 have CV:Hid (CelW _ _ _):=CV.out.step hbx
 clear mo hcl hla hpe hn9
 simp only [Nat.zero_mul,Nat.add_zero] at y0 y1 y2
 go_upto_region 6 with fail
 rw [<- hX,<- hob]
 clear hX hob hbx y0 y1 y2 xa0 xa2 xb2 HAb HBb
 obtain ⟨tx,htx⟩:∃ x,ox + gx = x:=⟨_,rfl⟩
 obtain ⟨sx,hsx⟩:∃ x,tx - 32768 = x:=⟨_,rfl⟩
 have w_tx:IntKind.i64.wrap (ox + gx) = tx:=by rw [htx,IntKind.wrap_i64];omega
 have w_sx:IntKind.i64.wrap (tx - 32768) = sx:=by rw [hsx,IntKind.wrap_i64];omega
 obtain ⟨ux,hux⟩:∃ x,ex - 65536 = x:=⟨_,rfl⟩
 have w_ux:IntKind.i64.wrap (ex - 65536) = ux:=by rw [hux,IntKind.wrap_i64];omega
 obtain ⟨ty,hty⟩:∃ x,oy + gy = x:=⟨_,rfl⟩
 obtain ⟨sy,hsy⟩:∃ x,ty - 32768 = x:=⟨_,rfl⟩
 have w_ty:IntKind.i64.wrap (oy + gy) = ty:=by rw [hty,IntKind.wrap_i64];omega
 have w_sy:IntKind.i64.wrap (ty - 32768) = sy:=by rw [hsy,IntKind.wrap_i64];omega
 obtain ⟨uy,huy⟩:∃ x,ey - 65536 = x:=⟨_,rfl⟩
 have w_uy:IntKind.i64.wrap (ey - 65536) = uy:=by rw [huy,IntKind.wrap_i64];omega
 obtain ⟨tz,htz⟩:∃ x,oz + gz = x:=⟨_,rfl⟩
 obtain ⟨sz,hsz⟩:∃ x,tz - 32768 = x:=⟨_,rfl⟩
 have w_tz:IntKind.i64.wrap (oz + gz) = tz:=by rw [htz,IntKind.wrap_i64];omega
 have w_sz:IntKind.i64.wrap (tz - 32768) = sz:=by rw [hsz,IntKind.wrap_i64];omega
 obtain ⟨uz,huz⟩:∃ x,ez - 65536 = x:=⟨_,rfl⟩
 have w_uz:IntKind.i64.wrap (ez - 65536) = uz:=by rw [huz,IntKind.wrap_i64];omega
 have HDOT:Hid (castB (dotC ⟨sx,sy,sz⟩) ⟨ux,uy,uz⟩ a = true/\castB (dotC ⟨sx,sy,sz⟩) ⟨ux,uy,uz⟩ b = true):=by
  have h1:Pt.inB ⟨sx,sy,sz⟩ 8421376 = true:=by rw [Pt.inB_iff];dsimp only;omega
  have h2:Pt.inB ⟨ux,uy,uz⟩ 65536 = true:=by rw [Pt.inB_iff];dsimp only;omega
  exact ⟨dot_cast h1 h2 hNa.1,dot_cast h1 h2 hNb.1⟩
 clear htx hsx hux lgx mgx lex mex hty hsy huy lgy mgy ley mey htz hsz huz lgz mgz lez mez hin hpl fa1 fa2
 have HOx:Hid (Cel X ob [.int .i64 ox,.int .i64 oy,.int .i64 oz]):=HS.out.bx _ ms
 have au0:=HOx.out 0 _ rfl
 have au1:=HOx.out 1 _ rfl
 have au2:=HOx.out 2 _ rfl
 obtain ⟨v0,vf0⟩:=CF.out 0 _ rfl
 obtain ⟨v1,vf1⟩:=CF.out 1 _ rfl
 obtain ⟨v2,vf2⟩:=CF.out 2 _ rfl
 go_cut [4,5,7,8,9] from 0 to 65 (fun s4 s5 s7 s8 s9 wx=>s4 = .pointer (some ⟨fb,0,none⟩)/\s5 = .pointer (some ⟨vb,0,none⟩)/\s7 = .bool true/\s8 = .pointer (some ⟨ab,0,none⟩)/\s9 = .pointer (some ⟨bb,0,none⟩)/\∃ w8,wx = set3 w8 fb sx sy sz/\Hid (Below X.heap.size X w8))
 case first =>
  refine RV.rs [.some (.pointer (some ⟨ob,0,none⟩)),.some (.int .i64 ox),.some (.pointer (some ⟨fb,0,none⟩)),.some (.int .i64 fx),.some (.int .i64 gx),.some (.int .i64 tx),.some (.int .i64 sx),.some (.pointer (some ⟨ob,1,none⟩)),.some (.int .i64 oy),.some (.pointer (some ⟨fb,1,none⟩)),.some (.int .i64 fy),.some (.int .i64 gy),.some (.int .i64 ty),.some (.int .i64 sy),.some (.pointer (some ⟨ob,2,none⟩)),.some (.int .i64 oz),.some (.pointer (some ⟨fb,2,none⟩)),.some (.int .i64 fz),.some (.int .i64 gz),.some (.int .i64 tz),.some (.int .i64 sz),.some (.agg #[.int .i64 sx,.int .i64 sy,.int .i64 sz]),none] [45,46,47,48,49,50,51,52,53,54,55,56,57,58,59,60,61,62,63,64,65,66,0] [(4,.pointer (some ⟨fb,0,none⟩)),(10,.pointer (some ⟨ob,0,none⟩))] (fun γ L w9=>(L 22 = false/\Below X.heap.size X w9) \/ (L 22 = true/\∃ w,Below X.heap.size X w/\w9 = (((w.setCell ⟨fb,0,none⟩ (.int .i64 sx)).setCell ⟨fb,1,none⟩ (.int .i64 sy)).setCell ⟨fb,2,none⟩ (.int .i64 sz)))) ⟨rfl,rfl,trivial⟩ ?_ ?_ ?_
  ·exact Or.inl ⟨rfl,(Below.refl _ X).drew⟩
  ·intro D WA Z hD hWA hZ T
   simp only [RV.Outs,RV.Slots,Nat.reduceAdd] at T
   iterate 4 first
    | (refine RV.cc _ (RV.pu T (fun γ v L w hl h=>by rw [RV.mn (L:=L) (i:=_) (j:=22) (by decide)];exact h) (fun γ L a w hH hl h9 k9=>⟨_,?_,rfl⟩)) ?_;· simp [execOp,go_sem,h9])
    | (refine RV.cc _ (RV.pu T (fun γ v L w hl h=>by rw [RV.mn (L:=L) (i:=_) (j:=22) (by decide)];exact h) (fun γ L a w hH hl h9 k9=>⟨_,?_,rfl⟩)) ?_;· have hB9:=early9 hH.glob (RV.ny hH (RV.wt (j:=22) hWA (by kernel_rfl)) hl);have q0:=c_after hB9 au0;have q1:=c_after hB9 v0;simp [Region.binds] at k9;simp [execOp,go_sem,h9,k9,q0,q1])
   refine RV.cc _ (RV.dc (fun γ L a w hH hl hA=>by have h9:=T γ L a w hH;have k9:=hA;simp [Region.binds] at k9;have hB9:=early9 hH.glob (RV.ny hH (RV.wt (j:=22) (i:=4) hWA (by kernel_rfl)) hl);exact ⟨11,#[.int .i64 fx,.int .i64 65536],by simp [go_sem,h9,k9],Calls.mono (HWx.out w) (by rintro e w2 ⟨rfl,hb⟩;exact ⟨_,rfl,rfl,fun j v _ h=>h.keep _,Or.inl ⟨by rw [RV.mn (L:=L) (i:=4) (j:=22) (by decide)];exact RV.ny hH (RV.wt (j:=22) (i:=4) hWA (by kernel_rfl)) hl,hB9.trans (hb.mono hB9.size)⟩⟩)⟩)) ?_
   iterate 6 first
    | (refine RV.cc _ (RV.pu T (fun γ v L w hl h=>by rw [RV.mn (L:=L) (i:=_) (j:=22) (by decide)];exact h) (fun γ L a w hH hl h9 k9=>⟨_,?_,rfl⟩)) ?_;· simp [execOp,go_sem,h9])
    | (refine RV.cc _ (RV.pu T (fun γ v L w hl h=>by rw [RV.mn (L:=L) (i:=_) (j:=22) (by decide)];exact h) (fun γ L a w hH hl h9 k9=>⟨_,?_,rfl⟩)) ?_;· simp [Region.binds] at k9;simp [execOp,go_sem,h9,k9,w_tx,w_sx])
    | (refine RV.cc _ (RV.pu T (fun γ v L w hl h=>by rw [RV.mn (L:=L) (i:=_) (j:=22) (by decide)];exact h) (fun γ L a w hH hl h9 k9=>⟨_,?_,rfl⟩)) ?_;· have hB9:=early9 hH.glob (RV.ny hH (RV.wt (j:=22) hWA (by kernel_rfl)) hl);have q0:=c_after hB9 au1;have q1:=c_after hB9 v1;simp [Region.binds] at k9;simp [execOp,go_sem,h9,k9,q0,q1])
   refine RV.cc _ (RV.dc (fun γ L a w hH hl hA=>by have h9:=T γ L a w hH;have k9:=hA;simp [Region.binds] at k9;have hB9:=early9 hH.glob (RV.ny hH (RV.wt (j:=22) (i:=11) hWA (by kernel_rfl)) hl);exact ⟨11,#[.int .i64 fy,.int .i64 65536],by simp [go_sem,h9,k9],Calls.mono (HWy.out w) (by rintro e w2 ⟨rfl,hb⟩;exact ⟨_,rfl,rfl,fun j v _ h=>h.keep _,Or.inl ⟨by rw [RV.mn (L:=L) (i:=11) (j:=22) (by decide)];exact RV.ny hH (RV.wt (j:=22) (i:=11) hWA (by kernel_rfl)) hl,hB9.trans (hb.mono hB9.size)⟩⟩)⟩)) ?_
   iterate 6 first
    | (refine RV.cc _ (RV.pu T (fun γ v L w hl h=>by rw [RV.mn (L:=L) (i:=_) (j:=22) (by decide)];exact h) (fun γ L a w hH hl h9 k9=>⟨_,?_,rfl⟩)) ?_;· simp [execOp,go_sem,h9])
    | (refine RV.cc _ (RV.pu T (fun γ v L w hl h=>by rw [RV.mn (L:=L) (i:=_) (j:=22) (by decide)];exact h) (fun γ L a w hH hl h9 k9=>⟨_,?_,rfl⟩)) ?_;· simp [Region.binds] at k9;simp [execOp,go_sem,h9,k9,w_ty,w_sy])
    | (refine RV.cc _ (RV.pu T (fun γ v L w hl h=>by rw [RV.mn (L:=L) (i:=_) (j:=22) (by decide)];exact h) (fun γ L a w hH hl h9 k9=>⟨_,?_,rfl⟩)) ?_;· have hB9:=early9 hH.glob (RV.ny hH (RV.wt (j:=22) hWA (by kernel_rfl)) hl);have q0:=c_after hB9 au2;have q1:=c_after hB9 v2;simp [Region.binds] at k9;simp [execOp,go_sem,h9,k9,q0,q1])
   refine RV.cc _ (RV.dc (fun γ L a w hH hl hA=>by have h9:=T γ L a w hH;have k9:=hA;simp [Region.binds] at k9;have hB9:=early9 hH.glob (RV.ny hH (RV.wt (j:=22) (i:=18) hWA (by kernel_rfl)) hl);exact ⟨11,#[.int .i64 fz,.int .i64 65536],by simp [go_sem,h9,k9],Calls.mono (HWz.out w) (by rintro e w2 ⟨rfl,hb⟩;exact ⟨_,rfl,rfl,fun j v _ h=>h.keep _,Or.inl ⟨by rw [RV.mn (L:=L) (i:=18) (j:=22) (by decide)];exact RV.ny hH (RV.wt (j:=22) (i:=18) hWA (by kernel_rfl)) hl,hB9.trans (hb.mono hB9.size)⟩⟩)⟩)) ?_
   iterate 3 (refine RV.cc _ (RV.pu T (fun γ v L w hl h=>by rw [RV.mn (L:=L) (i:=_) (j:=22) (by decide)];exact h) (fun γ L a w hH hl h9 k9=>⟨_,?_,rfl⟩)) ?_;· simp [Region.binds] at k9;simp [execOp,go_sem,h9,k9,w_tz,w_sz])
   refine RV.cc _ (RV.does_store (fun γ L a w hH hl hA=>by have h9:=T γ L a w hH;have k9:=hA;simp [Region.binds] at k9;have hB9:=early9 hH.glob hl;have z0:=c_after hB9 v0;have zf0:=f_after hB9 v0 vf0;have z1:=c_after hB9 v1;have zf1:=f_after hB9 v1 vf1;have z2:=c_after hB9 v2;have zf2:=f_after hB9 v2 vf2;exact ⟨(((w.setCell ⟨fb,0,none⟩ (.int .i64 sx)).setCell ⟨fb,1,none⟩ (.int .i64 sy)).setCell ⟨fb,2,none⟩ (.int .i64 sz)),by simp [execOp,go_sem,z0,zf0,z1,zf1,z2,zf2,h9,k9],trivial,fun j v _ h=>h.keep _,Or.inr ⟨RV.more_self,w,hB9,rfl⟩⟩)) ?_
   exact RV.AllDo.nil
  ·intro γ w5 L9 hL hI9 hG9
   obtain ⟨w8,hb8,rfl⟩:=late9 hG9 (hL 22 (by decide))
   clear hL hI9 hG9
   simp only [RV.putL,Act.put,List.setIfInBounds_toArray,List.set_cons_zero,List.set_cons_succ]
   have HZ:Hid _:=hb8
   go_wp2_with (fail)
   go_meet
   case rel=>exact ⟨rfl,rfl,rfl,rfl,rfl,w8,rfl,HZ⟩
 case rest =>
  obtain ⟨rfl,rfl,rfl,rfl,rfl,w8,e8,HZ⟩:=hcut
  rw [e8]
  have hne:vb ≠ fb:=fun e=>HLT.out.2.2.1 e.symm
  obtain ⟨Y,hY⟩:∃ V,V = set3 w8 fb sx sy sz:=⟨_,rfl⟩
  have HS:Hid _:=(HS.out.step HZ.out).put (Or.inl rfl) sx sy sz
  have CV2:Hid (CelW Y vb [.int .i64 vx,.int .i64 vy,.int .i64 vz]):=by show CelW _ _ _;rw [hY];unfold set3;exact (((CelW.step CV.out HZ.out).other hne _ _).other hne _ _).other hne _ _
  have CF2:Hid (Cel Y fb [.int .i64 sx,.int .i64 sy,.int .i64 sz]):=by show Cel _ _ _;rw [hY];unfold set3;exact CelW.cel ((((CelW.step CF.out HZ.out).set 0 (.int .i64 sx) (by simp)).set 1 (.int .i64 sy) (by simp)).set 2 (.int .i64 sz) (by simp))
  rw [<- hY] at HS ⊢
  clear hY HZ e8 CV CF au0 au1 au2 v0 v1 v2 vf0 vf1 vf2 HOx
  obtain ⟨v0,vf0⟩:=CV2.out 0 _ rfl
  obtain ⟨v1,vf1⟩:=CV2.out 1 _ rfl
  obtain ⟨v2,vf2⟩:=CV2.out 2 _ rfl
  go_upto_region 7 with fail
  go_cut [] from 66 to 78 (fun wx=>∃ w8,wx = set3 w8 vb ux uy uz/\Hid (Below Y.heap.size Y w8))
  case first =>
   refine RV.rs [.some (.pointer (some ⟨vb,0,none⟩)),.some (.int .i64 vx),.some (.int .i64 ex),.some (.int .i64 ux),.some (.pointer (some ⟨vb,1,none⟩)),.some (.int .i64 vy),.some (.int .i64 ey),.some (.int .i64 uy),.some (.pointer (some ⟨vb,2,none⟩)),.some (.int .i64 vz),.some (.int .i64 ez),.some (.int .i64 uz),.some (.agg #[.int .i64 ux,.int .i64 uy,.int .i64 uz]),none] [67,68,69,70,71,72,73,74,75,76,77,78,79,0] [(5,.pointer (some ⟨vb,0,none⟩))] (fun γ L w9=>(L 13 = false/\Below Y.heap.size Y w9) \/ (L 13 = true/\∃ w,Below Y.heap.size Y w/\w9 = (((w.setCell ⟨vb,0,none⟩ (.int .i64 ux)).setCell ⟨vb,1,none⟩ (.int .i64 uy)).setCell ⟨vb,2,none⟩ (.int .i64 uz)))) ⟨rfl,trivial⟩ ?_ ?_ ?_
   ·exact Or.inl ⟨rfl,(Below.refl _ Y).drew⟩
   ·intro D WA Z hD hWA hZ T
    simp only [RV.Outs,RV.Slots,Nat.reduceAdd] at T
    iterate 2 first
     | (refine RV.cc _ (RV.pu T (fun γ v L w hl h=>by rw [RV.mn (L:=L) (i:=_) (j:=13) (by decide)];exact h) (fun γ L a w hH hl h9 k9=>⟨_,?_,rfl⟩)) ?_;· simp [execOp,go_sem,h9])
     | (refine RV.cc _ (RV.pu T (fun γ v L w hl h=>by rw [RV.mn (L:=L) (i:=_) (j:=13) (by decide)];exact h) (fun γ L a w hH hl h9 k9=>⟨_,?_,rfl⟩)) ?_;· have hB9:=early9 hH.glob (RV.ny hH (RV.wt (j:=13) hWA (by kernel_rfl)) hl);have q0:=c_after hB9 v0;simp [Region.binds] at k9;simp [execOp,go_sem,h9,k9,q0])
    refine RV.cc _ (RV.dc (fun γ L a w hH hl hA=>by have h9:=T γ L a w hH;have k9:=hA;simp [Region.binds] at k9;have hB9:=early9 hH.glob (RV.ny hH (RV.wt (j:=13) (i:=2) hWA (by kernel_rfl)) hl);exact ⟨11,#[.int .i64 vx,.int .i64 131072],by simp [go_sem,h9,k9],Calls.mono (HVx.out w) (by rintro e w2 ⟨rfl,hb⟩;exact ⟨_,rfl,rfl,fun j v _ h=>h.keep _,Or.inl ⟨by rw [RV.mn (L:=L) (i:=2) (j:=13) (by decide)];exact RV.ny hH (RV.wt (j:=13) (i:=2) hWA (by kernel_rfl)) hl,hB9.trans (hb.mono hB9.size)⟩⟩)⟩)) ?_
    iterate 3 first
     | (refine RV.cc _ (RV.pu T (fun γ v L w hl h=>by rw [RV.mn (L:=L) (i:=_) (j:=13) (by decide)];exact h) (fun γ L a w hH hl h9 k9=>⟨_,?_,rfl⟩)) ?_;· simp [execOp,go_sem,h9])
     | (refine RV.cc _ (RV.pu T (fun γ v L w hl h=>by rw [RV.mn (L:=L) (i:=_) (j:=13) (by decide)];exact h) (fun γ L a w hH hl h9 k9=>⟨_,?_,rfl⟩)) ?_;· simp [Region.binds] at k9;simp [execOp,go_sem,h9,k9,w_ux])
     | (refine RV.cc _ (RV.pu T (fun γ v L w hl h=>by rw [RV.mn (L:=L) (i:=_) (j:=13) (by decide)];exact h) (fun γ L a w hH hl h9 k9=>⟨_,?_,rfl⟩)) ?_;· have hB9:=early9 hH.glob (RV.ny hH (RV.wt (j:=13) hWA (by kernel_rfl)) hl);have q0:=c_after hB9 v1;simp [Region.binds] at k9;simp [execOp,go_sem,h9,k9,q0])
    refine RV.cc _ (RV.dc (fun γ L a w hH hl hA=>by have h9:=T γ L a w hH;have k9:=hA;simp [Region.binds] at k9;have hB9:=early9 hH.glob (RV.ny hH (RV.wt (j:=13) (i:=6) hWA (by kernel_rfl)) hl);exact ⟨11,#[.int .i64 vy,.int .i64 131072],by simp [go_sem,h9,k9],Calls.mono (HVy.out w) (by rintro e w2 ⟨rfl,hb⟩;exact ⟨_,rfl,rfl,fun j v _ h=>h.keep _,Or.inl ⟨by rw [RV.mn (L:=L) (i:=6) (j:=13) (by decide)];exact RV.ny hH (RV.wt (j:=13) (i:=6) hWA (by kernel_rfl)) hl,hB9.trans (hb.mono hB9.size)⟩⟩)⟩)) ?_
    iterate 3 first
     | (refine RV.cc _ (RV.pu T (fun γ v L w hl h=>by rw [RV.mn (L:=L) (i:=_) (j:=13) (by decide)];exact h) (fun γ L a w hH hl h9 k9=>⟨_,?_,rfl⟩)) ?_;· simp [execOp,go_sem,h9])
     | (refine RV.cc _ (RV.pu T (fun γ v L w hl h=>by rw [RV.mn (L:=L) (i:=_) (j:=13) (by decide)];exact h) (fun γ L a w hH hl h9 k9=>⟨_,?_,rfl⟩)) ?_;· simp [Region.binds] at k9;simp [execOp,go_sem,h9,k9,w_uy])
     | (refine RV.cc _ (RV.pu T (fun γ v L w hl h=>by rw [RV.mn (L:=L) (i:=_) (j:=13) (by decide)];exact h) (fun γ L a w hH hl h9 k9=>⟨_,?_,rfl⟩)) ?_;· have hB9:=early9 hH.glob (RV.ny hH (RV.wt (j:=13) hWA (by kernel_rfl)) hl);have q0:=c_after hB9 v2;simp [Region.binds] at k9;simp [execOp,go_sem,h9,k9,q0])
    refine RV.cc _ (RV.dc (fun γ L a w hH hl hA=>by have h9:=T γ L a w hH;have k9:=hA;simp [Region.binds] at k9;have hB9:=early9 hH.glob (RV.ny hH (RV.wt (j:=13) (i:=10) hWA (by kernel_rfl)) hl);exact ⟨11,#[.int .i64 vz,.int .i64 131072],by simp [go_sem,h9,k9],Calls.mono (HVz.out w) (by rintro e w2 ⟨rfl,hb⟩;exact ⟨_,rfl,rfl,fun j v _ h=>h.keep _,Or.inl ⟨by rw [RV.mn (L:=L) (i:=10) (j:=13) (by decide)];exact RV.ny hH (RV.wt (j:=13) (i:=10) hWA (by kernel_rfl)) hl,hB9.trans (hb.mono hB9.size)⟩⟩)⟩)) ?_
    iterate 2 (refine RV.cc _ (RV.pu T (fun γ v L w hl h=>by rw [RV.mn (L:=L) (i:=_) (j:=13) (by decide)];exact h) (fun γ L a w hH hl h9 k9=>⟨_,?_,rfl⟩)) ?_;· simp [Region.binds] at k9;simp [execOp,go_sem,h9,k9,w_uz])
    refine RV.cc _ (RV.does_store (fun γ L a w hH hl hA=>by have h9:=T γ L a w hH;have k9:=hA;simp [Region.binds] at k9;have hB9:=early9 hH.glob hl;have z0:=c_after hB9 v0;have zf0:=f_after hB9 v0 vf0;have z1:=c_after hB9 v1;have zf1:=f_after hB9 v1 vf1;have z2:=c_after hB9 v2;have zf2:=f_after hB9 v2 vf2;exact ⟨(((w.setCell ⟨vb,0,none⟩ (.int .i64 ux)).setCell ⟨vb,1,none⟩ (.int .i64 uy)).setCell ⟨vb,2,none⟩ (.int .i64 uz)),by simp [execOp,go_sem,z0,zf0,z1,zf1,z2,zf2,h9,k9],trivial,fun j v _ h=>h.keep _,Or.inr ⟨RV.more_self,w,hB9,rfl⟩⟩)) ?_
    exact RV.AllDo.nil
   ·intro γ w5 L9 hL hI9 hG9
    obtain ⟨w8,hb8,rfl⟩:=late9 hG9 (hL 13 (by decide))
    clear hL hI9 hG9
    simp only [RV.putL,Act.put,List.setIfInBounds_toArray,List.set_cons_zero,List.set_cons_succ]
    have HZ:Hid _:=hb8
    go_wp2_with (fail)
    go_meet
    case rel=>exact ⟨w8,rfl,HZ⟩
  case rest =>
   obtain ⟨w9,e9,HZ⟩:=hcut
   rw [e9]
   obtain ⟨Z,hZ⟩:∃ V,V = set3 w9 vb ux uy uz:=⟨_,rfl⟩
   have HS:Hid _:=(HS.out.step HZ.out).put (Or.inr rfl) ux uy uz
   have CF3:Hid (Cel Z fb [.int .i64 sx,.int .i64 sy,.int .i64 sz]):=by show Cel _ _ _;rw [hZ];exact cel_set3 (Cel.step CF2.out HZ.out) (fun e=>hne e.symm) _ _ _
   have CV3:Hid (Cel Z vb [.int .i64 ux,.int .i64 uy,.int .i64 uz]):=by show Cel _ _ _;rw [hZ];unfold set3;exact CelW.cel ((((CelW.step CV2.out HZ.out).set 0 (.int .i64 ux) (by simp)).set 1 (.int .i64 uy) (by simp)).set 2 (.int .i64 uz) (by simp))
   rw [<- hZ] at HS ⊢
   clear hZ HZ e9 CV2 CF2 v0 v1 v2 vf0 vf1 vf2
   have HAb:Hid (Cel Z ab [.slice (some ⟨ge,fe,none⟩) a.P.length ac1,.slice ao2 a.A.length ac2,.slice ao3 a.E.length ac3,.int .i64 a.r]):=HS.out.bx _ (mc (ms))
   have HBb:Hid (Cel Z bb [.slice bo1 b.P.length bc1,.slice bo2 b.A.length bc2,.slice bo3 b.E.length bc3,.int .i64 b.r]):=HS.out.bx _ (mc (mc (ms)))
   have x0:=HAb.out 0 _ rfl
   have x1:=HAb.out 1 _ rfl
   have x2:=HAb.out 2 _ rfl
   have x3:=HAb.out 3 _ rfl
   have y0:=HBb.out 0 _ rfl
   have y1:=HBb.out 1 _ rfl
   have y2:=HBb.out 2 _ rfl
   have y3:=HBb.out 3 _ rfl
   obtain ⟨Q,hQ⟩:∃ V,V = Z.alloc (.cells #[.slice (some ⟨ge,fe,none⟩) a.P.length ac1,.slice ao2 a.A.length ac2,.slice ao3 a.E.length ac3,.int .i64 a.r,.slice bo1 b.P.length bc1,.slice bo2 b.A.length bc2,.slice bo3 b.E.length bc3,.int .i64 b.r] 35):=⟨_,rfl⟩
   obtain ⟨lb,hlb⟩:∃ b,b = Z.heap.size:=⟨_,rfl⟩
   have hbq:Below Z.heap.size Z Q:=by rw [hQ];exact n_after _ _
   have m2:Cel Q lb [.slice (some ⟨ge,fe,none⟩) a.P.length ac1,.slice ao2 a.A.length ac2,.slice ao3 a.E.length ac3,.int .i64 a.r,.slice bo1 b.P.length bc1,.slice bo2 b.A.length bc2,.slice bo3 b.E.length bc3,.int .i64 b.r]:=by rw [hQ,hlb];exact Cel.new Z [.slice (some ⟨ge,fe,none⟩) a.P.length ac1,.slice ao2 a.A.length ac2,.slice ao3 a.E.length ac3,.int .i64 a.r,.slice bo1 b.P.length bc1,.slice bo2 b.A.length bc2,.slice bo3 b.E.length bc3,.int .i64 b.r] 35
   have HS:Hid _:=HS.out.step hbq
   have CF3:Hid (Cel _ _ _):=CF3.out.step hbq
   have CV3:Hid (Cel _ _ _):=CV3.out.step hbq
   have a1:=HS.out.lz (.slice (some ⟨ge,fe,none⟩) a.P.length ac1,a.P) ms
   have a2:=HS.out.lz (.slice ao2 a.A.length ac2,a.A) (mc (ms))
   have a3:=HS.out.lz (.slice ao3 a.E.length ac3,a.E) (mc (mc (ms)))
   have b1:=HS.out.lz (.slice bo1 b.P.length bc1,b.P) (mc (mc (mc (ms))))
   have b2:=HS.out.lz (.slice bo2 b.A.length bc2,b.A) (mc (mc (mc (mc (ms)))))
   have b3:=HS.out.lz (.slice bo3 b.E.length bc3,b.E) (mc (mc (mc (mc (mc (ms))))))
   have HLC:Hid (LiesC Q (.slice (some ⟨lb,0,none⟩) 2 2) [a,b]):=liesC_two m2 a1 a2 a3 b1 b2 b3
   have HB:Hid _:=HS.out.below
   clear m2 a1 a2 a3 b1 b2 b3 HAb HBb HS
   go_upto_region 9 with fail
   rw [<- hQ,<- hlb]
   clear hQ hlb hbq x0 x1 x2 x3 y0 y1 y2 y3
   have HR1:Hid _:=wray_any ⟨sx,sy,sz⟩ ⟨ux,uy,uz⟩ [a,b] _ Q HLC.out
   obtain ⟨nI,pI,isb,er,hcs,hfa⟩:=rays_facts HDOT.out.1 HDOT.out.2
   rw [er] at HR1
   have HFA:Hid _:=hfa
   have HCA:Hid _:=hcs
   unfold Pt.v at HR1
   dsimp only at HR1
   clear er hfa hcs HDOT hNa hNb hRa hRb HLT HOB
   have x0:=CF3.out 0 _ rfl
   have x1:=CF3.out 1 _ rfl
   have x2:=CF3.out 2 _ rfl
   have y0:=CV3.out 0 _ rfl
   have y1:=CV3.out 1 _ rfl
   have y2:=CV3.out 2 _ rfl
   go_wp2_with (fail)
   refine Calls.mono HR1.out ?_
   rintro e Q1 ⟨rfl,hb⟩
   have HB:Hid _:=b_step HB.out hb
   have CF3:Hid (Cel _ _ _):=CF3.out.step hb
   have CV3:Hid (Cel _ _ _):=CV3.out.step hb
   have HLC:Hid (LiesC _ _ _):=HLC.out.below hb
   clear hb x0 x1 x2 y0 y1 y2 HR1
   have x0:=CF3.out 0 _ rfl
   have x1:=CF3.out 1 _ rfl
   have x2:=CF3.out 2 _ rfl
   obtain ⟨Q2,hQ2⟩:∃ V,V = (Q1.alloc (.cells #[.int .i64 sx,.int .i64 sy,.int .i64 sz] 23)).alloc (.cells #[.slice (some ⟨Q1.heap.size,0,none⟩) 1 1,.slice none 0 0,.slice none 0 0,.int .i64 0] 35):=⟨_,rfl⟩
   obtain ⟨qb,hqb⟩:∃ b,b = Q1.heap.size + 1:=⟨_,rfl⟩
   obtain ⟨gp,hgp⟩:∃ b,b = Q1.heap.size:=⟨_,rfl⟩
   have hb2:Below Q1.heap.size Q1 Q2:=by rw [hQ2];exact b_step (n_after _ _) (n_after _ _)
   have mp:Cel Q2 gp [.int .i64 sx,.int .i64 sy,.int .i64 sz]:=by rw [hQ2,hgp];exact (Cel.new Q1 [.int .i64 sx,.int .i64 sy,.int .i64 sz] 23).step (n_after _ _)
   have n2:=Cel.new (Q1.alloc (.cells #[.int .i64 sx,.int .i64 sy,.int .i64 sz] 23)) [.slice (some ⟨Q1.heap.size,0,none⟩) 1 1,.slice none 0 0,.slice none 0 0,.int .i64 0] 35
   rw [World.size_alloc] at n2
   have CP:Hid (Cel Q2 qb [.slice (some ⟨gp,0,none⟩) 1 1,.slice none 0 0,.slice none 0 0,.int .i64 0]):=by show Cel _ _ _;rw [hQ2,hqb,hgp];exact n2
   have HB:Hid _:=b_step HB.out hb2
   have CV3:Hid (Cel _ _ _):=CV3.out.step hb2
   have HLC:Hid (LiesC _ _ _):=HLC.out.below hb2
   have HLP:Hid (Lies Q2 (.slice (some ⟨gp,0,none⟩) 1 1) [⟨sx,sy,sz⟩]):=lies_one9 mp
   clear mp n2 hb2 CF3
   go_upto_region 11 with fail
   rw [<- hQ2,<- hqb,<- hgp]
   clear hQ2 hqb hgp x0 x1 x2
   go_wp2_with (fail)
   go_loopg [16] 2 (fun gm s16 wr=>∃ k:Nat,k + gm = 2/\s16 = .int .i64 k/\Hid (Below Q2.heap.size Q2 wr))
   case atStart=>exact ⟨0,rfl,rfl,Below.refl _ _⟩
   case round =>
    obtain ⟨k,hk,rfl,HQ⟩:=hrel
    rcases Nat.eq_zero_or_pos gk with h0 | h0
    ·obtain rfl:k = 2:=by omega
     clear hk h0
     rcases HFA.out with ⟨rfl,rfl,rfl,hA⟩ | ⟨j,y,rfl,rfl,rfl,hj,hy,hjy,hB⟩
     ·clear HFA hA
      go_wp2
      go_ret
      exact ⟨rfl,b_step HB.out HQ.out⟩
     ·clear HFA hB
      obtain ⟨wz,hwz⟩:∃ V,V = wr:=⟨_,rfl⟩
      rw [<- hwz] at HQ
      have HCB:Hid _:=HCA.out j hj
      obtain ⟨cd,hcd⟩:∃ c,cr [a,b] j = c:=⟨_,rfl⟩
      have CPr:Hid (Cel wz qb [.slice (some ⟨gp,0,none⟩) 1 1,.slice none 0 0,.slice none 0 0,.int .i64 0]):=CP.out.step HQ.out
      have CVr:Hid (Cel wz vb [.int .i64 ux,.int .i64 uy,.int .i64 uz]):=CV3.out.step HQ.out
      obtain ⟨o9,c9,e9,_,_,hl9⟩:=(HLC.out.below HQ.out).form
      cases e9
      obtain ⟨g9,f9,qv,bv,fv,e9,lc0,lc1,lc2,lc3,m1,m2,m3⟩:=hl9 j hj
      cases e9
      rw [hcd] at lc3 m1 m2 m3 HCB
      simp only [Nat.zero_add] at lc0 lc1 lc2 lc3
      have HCS:Hid _:=fun (w':World) (h:Below wz.heap.size wz w')=>wcast_any (dotC ⟨sx,sy,sz⟩) ⟨ux,uy,uz⟩ cd _ (.slice none 0 0) (.slice none 0 0) qv bv fv w' ((HLP.out.below HQ.out).below h) (lies_nil9 _) (lies_nil9 _) (m1.below h) (m2.below h) (m3.below h)
      rw [HCB.out] at HCS
      obtain ⟨kN,hkN⟩:∃ k,(castR (dotC ⟨sx,sy,sz⟩) ⟨ux,uy,uz⟩ cd).1 = k:=⟨_,rfl⟩
      obtain ⟨⟨⟨ax,ay,az⟩,ag⟩,hag⟩:∃ x,(castR (dotC ⟨sx,sy,sz⟩) ⟨ux,uy,uz⟩ cd).2 = x:=⟨_,rfl⟩
      rw [hkN,hag] at HCS
      obtain ⟨kc,hkc⟩:∃ k:Int,(kN:Int) = k:=⟨_,rfl⟩
      rw [hkc] at HCS
      unfold coreA apV Pt.v at HCS
      dsimp only [dotC] at HCS
      have HKC:Hid ((castR (dotC ⟨sx,sy,sz⟩) ⟨ux,uy,uz⟩ (cr [a,b] j)).1 = kN/\(kN:Int) = kc/\(castR (dotC ⟨sx,sy,sz⟩) ⟨ux,uy,uz⟩ (cr [a,b] j)).2.2 = ag):=by show _/\_;rw [hcd,hag];exact ⟨hkN,hkc,rfl⟩
      have pc0:=CPr.out 0 _ rfl
      have pc1:=CPr.out 1 _ rfl
      have pc2:=CPr.out 2 _ rfl
      have pc3:=CPr.out 3 _ rfl
      have wc0:=CVr.out 0 _ rfl
      have wc1:=CVr.out 1 _ rfl
      have wc2:=CVr.out 2 _ rfl
      have hix:(j:Int) < 2:=by omega
      have hix0:(0:Int) <= (j:Int):=by omega
      clear hcd hkN hag hkc hl9 m1 m2 m3 HCB CPr CVr
      go_upto_region 23 with fail
      rw [<- hwz]
      clear hwz
      refine RV.rs [.some (.agg #[.slice (some ⟨gp,0,none⟩) 1 1,.slice none 0 0,.slice none 0 0,.int .i64 0]),.some (.agg #[.int .i64 ux,.int .i64 uy,.int .i64 uz]),.some (.slice (some ⟨lb,0,none⟩) 2 2),.some (.int .i64 (j:Int)),.some (.pointer (some ⟨lb,j * 4,none⟩)),.some (.agg #[qv,bv,fv,.int .i64 cd.r]),.some (.tuple #[.int .i64 kc,.agg #[.int .i64 ax,.int .i64 ay,.int .i64 az,.int .i64 ag],.bool true]),.some (.tuple #[.int .i64 kc,.agg #[.int .i64 ax,.int .i64 ay,.int .i64 az,.int .i64 ag],.bool true]),.some (.int .i64 kc),.some (.agg #[.int .i64 ax,.int .i64 ay,.int .i64 az,.int .i64 ag]),.some (.bool true),none,.some (.int .i64 kc),none,.some (.bool true)] [163,164,165,166,167,168,169,162,170,171,172,22,21,0,23] [(15,.pointer (some ⟨qb,0,none⟩)),(5,.pointer (some ⟨vb,0,none⟩)),(11,.slice (some ⟨lb,0,none⟩) 2 2),(12,.int .i64 (j:Int))] (fun γ L w=>Below wz.heap.size wz w/\RV.Pend wz 45 11 13 #[.int .i64 ax,.int .i64 ay,.int .i64 az,.int .i64 ag] γ L w) ⟨rfl,rfl,rfl,rfl,trivial⟩ ⟨(Below.refl _ wz).drew,RV.Pend.start rfl⟩ ?_ ?_
      ·intro D WA Z hD hWA hZ T
       simp only [RV.Outs,RV.Slots,Nat.reduceAdd] at T
       (refine RV.cc _ (RV.pu T (fun γ v L w hl h=>⟨h.1,h.2.other _ (by decide) (by decide)⟩) (fun γ L a w hH hl h9 k9=>⟨_,?_,rfl⟩)) ?_;· have q0:=c_after hH.glob.1 pc0;have q1:=c_after hH.glob.1 pc1;have q2:=c_after hH.glob.1 pc2;have q3:=c_after hH.glob.1 pc3;simp [execOp,go_sem,h9,q0,q1,q2,q3])
       (refine RV.cc _ (RV.pu T (fun γ v L w hl h=>⟨h.1,h.2.other _ (by decide) (by decide)⟩) (fun γ L a w hH hl h9 k9=>⟨_,?_,rfl⟩)) ?_;· have q0:=c_after hH.glob.1 wc0;have q1:=c_after hH.glob.1 wc1;have q2:=c_after hH.glob.1 wc2;simp [execOp,go_sem,h9,q0,q1,q2])
       iterate 2 (refine RV.cc _ (RV.pu T (fun γ v L w hl h=>⟨h.1,h.2.other _ (by decide) (by decide)⟩) (fun γ L a w hH hl h9 k9=>⟨_,?_,rfl⟩)) ?_;· simp [execOp,go_sem,h9])
       (refine RV.cc _ (RV.pu T (fun γ v L w hl h=>⟨h.1,h.2.other _ (by decide) (by decide)⟩) (fun γ L a w hH hl h9 k9=>⟨_,?_,rfl⟩)) ?_;· simp [Region.binds] at k9;simp [execOp,go_sem,h9,k9,hix,hix0])
       (refine RV.cc _ (RV.pu T (fun γ v L w hl h=>⟨h.1,h.2.other _ (by decide) (by decide)⟩) (fun γ L a w hH hl h9 k9=>⟨_,?_,rfl⟩)) ?_;· have q0:=c_after hH.glob.1 lc0;have q1:=c_after hH.glob.1 lc1;have q2:=c_after hH.glob.1 lc2;have q3:=c_after hH.glob.1 lc3;simp [Region.binds] at k9;simp [execOp,go_sem,h9,k9,q0,q1,q2,q3])
       refine RV.cc _ (RV.dc (fun γ L a w hH hl hA=>by have h9:=T γ L a w hH;have k9:=hA;simp [Region.binds] at k9;exact ⟨_,_,by simp [go_sem,h9,k9],Calls.mono (HCS.out w hH.glob.1) (by rintro e w2 ⟨rfl,hb⟩;exact ⟨_,rfl,rfl,fun j v _ h=>h.keep _,b_step hH.glob.1 hb,(hH.glob.2.below hb).other _ (by decide) (by decide)⟩)⟩)) ?_
       iterate 4 (refine RV.cc _ (RV.pu T (fun γ v L w hl h=>⟨h.1,h.2.other _ (by decide) (by decide)⟩) (fun γ L a w hH hl h9 k9=>⟨_,?_,rfl⟩)) ?_;· simp [Region.binds] at k9;simp [execOp,go_sem,h9,k9])
       refine RV.cc _ (RV.does_step (fun γ L a w hH hl hA=>by have hb9:=n_after w (.cells #[.int .i64 0,.int .i64 0,.int .i64 0,.int .i64 0] 45);exact ⟨.pointer (some ⟨w.heap.size,0,none⟩),w.alloc (.cells #[.int .i64 0,.int .i64 0,.int .i64 0,.int .i64 0] 45),by simp [execOp,go_sem],trivial,fun j v _ h=>h.keep _,b_step hH.glob.1 hb9,RV.Pend.made _ rfl hH.glob.1.size (RV.ny hH (RV.wt (j:=13) (i:=11) hWA (by kernel_rfl)) hl) (by decide)⟩)) ?_
       (refine RV.cc _ (RV.pu T (fun γ v L w hl h=>⟨h.1,h.2.other _ (by decide) (by decide)⟩) (fun γ L a w hH hl h9 k9=>⟨_,?_,rfl⟩)) ?_;· simp [Region.binds] at k9;simp [execOp,go_sem,h9,k9])
       refine RV.cc _ (RV.does_store (fun γ L a w hH hl hA=>by have h9:=T γ L a w hH;have k9:=hA;simp [Region.binds] at k9;have l0:L 11 = true:=hA ⟨11,.data⟩ (by simp) rfl;have e0:=hH.slot 11 21 (by rw [<- hD];rfl) l0;obtain ⟨b,cs,hb1,hb2,hb3,hb4,_⟩:=hH.glob.2 l0;rw [hb1] at e0;obtain ⟨u0,u1,u2,u3,rfl⟩:=arr4k hb4;have z09:w.cell? ⟨b,0,none⟩ = some u0:=(by simp [World.cell?,hb3]);have z19:w.cell? ⟨b,1,none⟩ = some u1:=(by simp [World.cell?,hb3]);have z29:w.cell? ⟨b,2,none⟩ = some u2:=(by simp [World.cell?,hb3]);have z39:w.cell? ⟨b,3,none⟩ = some u3:=(by simp [World.cell?,hb3]);have zf:∀ o,w.frozen? ⟨b,o,none⟩ = false:=fun o=>(by simp [World.frozen?,hb3]);exact ⟨set4 w b (.int .i64 ax) (.int .i64 ay) (.int .i64 az) (.int .i64 ag),by simp [set4,execOp,go_sem,e0,h9,k9,z09,z19,z29,z39,zf],trivial,fun j v _ h=>h.keep _,set4_below hH.glob.1 hb2 _ _ _ _,RV.Pend.filled hb1 hb2 (by have q0:=Go.heap_setCell_same w b 0 _ _ (.int .i64 ax) hb3;have q1:=Go.heap_setCell_same _ b 1 _ _ (.int .i64 ay) q0;have q2:=Go.heap_setCell_same _ b 2 _ _ (.int .i64 az) q1;have q3:=Go.heap_setCell_same _ b 3 _ _ (.int .i64 ag) q2;simpa [set4] using q3) (by decide) _⟩)) ?_
       (refine RV.cc _ (RV.pu T (fun γ v L w hl h=>⟨h.1,h.2.other _ (by decide) (by decide)⟩) (fun γ L a w hH hl h9 k9=>⟨_,?_,rfl⟩)) ?_;· simp [Region.binds] at k9;simp [execOp,go_sem,h9,k9])
       exact RV.AllDo.nil
      ·intro γ w5 L9 hL hI9 hG9
       obtain ⟨nb,cs,hb1,hb2,hb3,_,hb5⟩:=hG9.2 (hL 11 (by decide))
       rw [hb5 (hL 13 (by decide))] at hb3
       have HB5:Hid (Below _ _ _):=hG9.1
       simp only [RV.putL,Act.put,List.setIfInBounds_toArray,List.set_cons_zero,List.set_cons_succ,Nat.reduceAdd]
       rw [hb1]
       have CY:Hid (Cel w5 nb [.int .i64 ax,.int .i64 ay,.int .i64 az,.int .i64 ag]):=fun k v e=>by match k,e with | 0,e=>cases e;simp [World.cell?,hb3] | 1,e=>cases e;simp [World.cell?,hb3] | 2,e=>cases e;simp [World.cell?,hb3] | 3,e=>cases e;simp [World.cell?,hb3] | n + 4,e=>simp at e
       clear hG9 hI9 hL hb1 hb2 hb3 hb5
       have HBQ:Hid _:=b_step HQ.out HB5.out
       clear HCS lc0 lc1 lc2 lc3 pc0 pc1 pc2 pc3 wc0 wc1 wc2 CY
       obtain ⟨e1,e2,_⟩:=HKC.out
       obtain rfl:y = kN:=hjy.symm.trans e1
       subst e2
       have hky:((y:Nat):Int) < 16:=by omega
       clear e1 HKC hjy
       go_wp2
       go_ret
       exact ⟨rfl,b_step HB.out HBQ.out⟩
    ·obtain ⟨gm,rfl⟩:∃ m,gk = m + 1:=⟨gk - 1,by omega⟩
     have hk2:k < 2:=by omega
     obtain ⟨wz,hwz⟩:∃ V,V = wr:=⟨_,rfl⟩
     rw [<- hwz] at HQ
     have HCB:Hid _:=HCA.out k hk2
     obtain ⟨cd,hcd⟩:∃ c,cr [a,b] k = c:=⟨_,rfl⟩
     have CPr:Hid (Cel wz qb [.slice (some ⟨gp,0,none⟩) 1 1,.slice none 0 0,.slice none 0 0,.int .i64 0]):=CP.out.step HQ.out
     have CVr:Hid (Cel wz vb [.int .i64 ux,.int .i64 uy,.int .i64 uz]):=CV3.out.step HQ.out
     obtain ⟨o9,c9,e9,_,_,hl9⟩:=(HLC.out.below HQ.out).form
     cases e9
     obtain ⟨g9,f9,qv,bv,fv,e9,lc0,lc1,lc2,lc3,m1,m2,m3⟩:=hl9 k hk2
     cases e9
     rw [hcd] at lc3 m1 m2 m3 HCB
     simp only [Nat.zero_add] at lc0 lc1 lc2 lc3
     have HCS:Hid _:=fun (w':World) (h:Below wz.heap.size wz w')=>wcast_any (dotC ⟨sx,sy,sz⟩) ⟨ux,uy,uz⟩ cd _ (.slice none 0 0) (.slice none 0 0) qv bv fv w' ((HLP.out.below HQ.out).below h) (lies_nil9 _) (lies_nil9 _) (m1.below h) (m2.below h) (m3.below h)
     rw [HCB.out] at HCS
     obtain ⟨kN,hkN⟩:∃ k,(castR (dotC ⟨sx,sy,sz⟩) ⟨ux,uy,uz⟩ cd).1 = k:=⟨_,rfl⟩
     obtain ⟨⟨⟨ax,ay,az⟩,ag⟩,hag⟩:∃ x,(castR (dotC ⟨sx,sy,sz⟩) ⟨ux,uy,uz⟩ cd).2 = x:=⟨_,rfl⟩
     rw [hkN,hag] at HCS
     obtain ⟨kc,hkc⟩:∃ k:Int,(kN:Int) = k:=⟨_,rfl⟩
     rw [hkc] at HCS
     unfold coreA apV Pt.v at HCS
     dsimp only [dotC] at HCS
     have HKC:Hid ((castR (dotC ⟨sx,sy,sz⟩) ⟨ux,uy,uz⟩ (cr [a,b] k)).1 = kN/\(kN:Int) = kc/\(castR (dotC ⟨sx,sy,sz⟩) ⟨ux,uy,uz⟩ (cr [a,b] k)).2.2 = ag):=by show _/\_;rw [hcd,hag];exact ⟨hkN,hkc,rfl⟩
     have pc0:=CPr.out 0 _ rfl
     have pc1:=CPr.out 1 _ rfl
     have pc2:=CPr.out 2 _ rfl
     have pc3:=CPr.out 3 _ rfl
     have wc0:=CVr.out 0 _ rfl
     have wc1:=CVr.out 1 _ rfl
     have wc2:=CVr.out 2 _ rfl
     have hix:(k:Int) < 2:=by omega
     have hix0:(0:Int) <= (k:Int):=by omega
     clear hcd hkN hag hkc hl9 m1 m2 m3 HCB CPr CVr
     go_upto_region 16 with fail
     rw [<- hwz]
     clear hwz
     go_cut [17,18,19] from 95 to 152 (fun s17 s18 s19 wx=>s17 = .int .i64 kc/\s19 = .bool true/\∃ nb,s18 = .pointer (some ⟨nb,0,none⟩)/\Hid (Cel wx nb [.int .i64 ax,.int .i64 ay,.int .i64 az,.int .i64 ag])/\Hid (Below Q2.heap.size Q2 wx))
     case first =>
      refine RV.rs [.some (.agg #[.slice (some ⟨gp,0,none⟩) 1 1,.slice none 0 0,.slice none 0 0,.int .i64 0]),.some (.agg #[.int .i64 ux,.int .i64 uy,.int .i64 uz]),.some (.slice (some ⟨lb,0,none⟩) 2 2),.some (.int .i64 (k:Int)),.some (.pointer (some ⟨lb,k * 4,none⟩)),.some (.agg #[qv,bv,fv,.int .i64 cd.r]),.some (.tuple #[.int .i64 kc,.agg #[.int .i64 ax,.int .i64 ay,.int .i64 az,.int .i64 ag],.bool true]),.some (.tuple #[.int .i64 kc,.agg #[.int .i64 ax,.int .i64 ay,.int .i64 az,.int .i64 ag],.bool true]),.some (.int .i64 kc),.some (.agg #[.int .i64 ax,.int .i64 ay,.int .i64 az,.int .i64 ag]),.some (.bool true),none,.some (.int .i64 kc),none,.some (.bool true)] [101,102,103,104,105,106,107,100,108,109,110,19,18,0,20] [(15,.pointer (some ⟨qb,0,none⟩)),(5,.pointer (some ⟨vb,0,none⟩)),(11,.slice (some ⟨lb,0,none⟩) 2 2),(16,.int .i64 (k:Int))] (fun γ L w=>Below wz.heap.size wz w/\RV.Pend wz 45 11 13 #[.int .i64 ax,.int .i64 ay,.int .i64 az,.int .i64 ag] γ L w) ⟨rfl,rfl,rfl,rfl,trivial⟩ ⟨(Below.refl _ wz).drew,RV.Pend.start rfl⟩ ?_ ?_
      ·intro D WA Z hD hWA hZ T
       simp only [RV.Outs,RV.Slots,Nat.reduceAdd] at T
       (refine RV.cc _ (RV.pu T (fun γ v L w hl h=>⟨h.1,h.2.other _ (by decide) (by decide)⟩) (fun γ L a w hH hl h9 k9=>⟨_,?_,rfl⟩)) ?_;· have q0:=c_after hH.glob.1 pc0;have q1:=c_after hH.glob.1 pc1;have q2:=c_after hH.glob.1 pc2;have q3:=c_after hH.glob.1 pc3;simp [execOp,go_sem,h9,q0,q1,q2,q3])
       (refine RV.cc _ (RV.pu T (fun γ v L w hl h=>⟨h.1,h.2.other _ (by decide) (by decide)⟩) (fun γ L a w hH hl h9 k9=>⟨_,?_,rfl⟩)) ?_;· have q0:=c_after hH.glob.1 wc0;have q1:=c_after hH.glob.1 wc1;have q2:=c_after hH.glob.1 wc2;simp [execOp,go_sem,h9,q0,q1,q2])
       iterate 2 (refine RV.cc _ (RV.pu T (fun γ v L w hl h=>⟨h.1,h.2.other _ (by decide) (by decide)⟩) (fun γ L a w hH hl h9 k9=>⟨_,?_,rfl⟩)) ?_;· simp [execOp,go_sem,h9])
       (refine RV.cc _ (RV.pu T (fun γ v L w hl h=>⟨h.1,h.2.other _ (by decide) (by decide)⟩) (fun γ L a w hH hl h9 k9=>⟨_,?_,rfl⟩)) ?_;· simp [Region.binds] at k9;simp [execOp,go_sem,h9,k9,hix,hix0])
       (refine RV.cc _ (RV.pu T (fun γ v L w hl h=>⟨h.1,h.2.other _ (by decide) (by decide)⟩) (fun γ L a w hH hl h9 k9=>⟨_,?_,rfl⟩)) ?_;· have q0:=c_after hH.glob.1 lc0;have q1:=c_after hH.glob.1 lc1;have q2:=c_after hH.glob.1 lc2;have q3:=c_after hH.glob.1 lc3;simp [Region.binds] at k9;simp [execOp,go_sem,h9,k9,q0,q1,q2,q3])
       refine RV.cc _ (RV.dc (fun γ L a w hH hl hA=>by have h9:=T γ L a w hH;have k9:=hA;simp [Region.binds] at k9;exact ⟨_,_,by simp [go_sem,h9,k9],Calls.mono (HCS.out w hH.glob.1) (by rintro e w2 ⟨rfl,hb⟩;exact ⟨_,rfl,rfl,fun j v _ h=>h.keep _,b_step hH.glob.1 hb,(hH.glob.2.below hb).other _ (by decide) (by decide)⟩)⟩)) ?_
       iterate 4 (refine RV.cc _ (RV.pu T (fun γ v L w hl h=>⟨h.1,h.2.other _ (by decide) (by decide)⟩) (fun γ L a w hH hl h9 k9=>⟨_,?_,rfl⟩)) ?_;· simp [Region.binds] at k9;simp [execOp,go_sem,h9,k9])
       refine RV.cc _ (RV.does_step (fun γ L a w hH hl hA=>by have hb9:=n_after w (.cells #[.int .i64 0,.int .i64 0,.int .i64 0,.int .i64 0] 45);exact ⟨.pointer (some ⟨w.heap.size,0,none⟩),w.alloc (.cells #[.int .i64 0,.int .i64 0,.int .i64 0,.int .i64 0] 45),by simp [execOp,go_sem],trivial,fun j v _ h=>h.keep _,b_step hH.glob.1 hb9,RV.Pend.made _ rfl hH.glob.1.size (RV.ny hH (RV.wt (j:=13) (i:=11) hWA (by kernel_rfl)) hl) (by decide)⟩)) ?_
       (refine RV.cc _ (RV.pu T (fun γ v L w hl h=>⟨h.1,h.2.other _ (by decide) (by decide)⟩) (fun γ L a w hH hl h9 k9=>⟨_,?_,rfl⟩)) ?_;· simp [Region.binds] at k9;simp [execOp,go_sem,h9,k9])
       refine RV.cc _ (RV.does_store (fun γ L a w hH hl hA=>by have h9:=T γ L a w hH;have k9:=hA;simp [Region.binds] at k9;have l0:L 11 = true:=hA ⟨11,.data⟩ (by simp) rfl;have e0:=hH.slot 11 18 (by rw [<- hD];rfl) l0;obtain ⟨b,cs,hb1,hb2,hb3,hb4,_⟩:=hH.glob.2 l0;rw [hb1] at e0;obtain ⟨u0,u1,u2,u3,rfl⟩:=arr4k hb4;have z09:w.cell? ⟨b,0,none⟩ = some u0:=(by simp [World.cell?,hb3]);have z19:w.cell? ⟨b,1,none⟩ = some u1:=(by simp [World.cell?,hb3]);have z29:w.cell? ⟨b,2,none⟩ = some u2:=(by simp [World.cell?,hb3]);have z39:w.cell? ⟨b,3,none⟩ = some u3:=(by simp [World.cell?,hb3]);have zf:∀ o,w.frozen? ⟨b,o,none⟩ = false:=fun o=>(by simp [World.frozen?,hb3]);exact ⟨set4 w b (.int .i64 ax) (.int .i64 ay) (.int .i64 az) (.int .i64 ag),by simp [set4,execOp,go_sem,e0,h9,k9,z09,z19,z29,z39,zf],trivial,fun j v _ h=>h.keep _,set4_below hH.glob.1 hb2 _ _ _ _,RV.Pend.filled hb1 hb2 (by have q0:=Go.heap_setCell_same w b 0 _ _ (.int .i64 ax) hb3;have q1:=Go.heap_setCell_same _ b 1 _ _ (.int .i64 ay) q0;have q2:=Go.heap_setCell_same _ b 2 _ _ (.int .i64 az) q1;have q3:=Go.heap_setCell_same _ b 3 _ _ (.int .i64 ag) q2;simpa [set4] using q3) (by decide) _⟩)) ?_
       (refine RV.cc _ (RV.pu T (fun γ v L w hl h=>⟨h.1,h.2.other _ (by decide) (by decide)⟩) (fun γ L a w hH hl h9 k9=>⟨_,?_,rfl⟩)) ?_;· simp [Region.binds] at k9;simp [execOp,go_sem,h9,k9])
       exact RV.AllDo.nil
      ·intro γ w5 L9 hL hI9 hG9
       obtain ⟨nb,cs,hb1,hb2,hb3,_,hb5⟩:=hG9.2 (hL 11 (by decide))
       rw [hb5 (hL 13 (by decide))] at hb3
       have HB5:Hid (Below _ _ _):=hG9.1
       simp only [RV.putL,Act.put,List.setIfInBounds_toArray,List.set_cons_zero,List.set_cons_succ,Nat.reduceAdd]
       rw [hb1]
       have CY:Hid (Cel w5 nb [.int .i64 ax,.int .i64 ay,.int .i64 az,.int .i64 ag]):=fun k v e=>by match k,e with | 0,e=>cases e;simp [World.cell?,hb3] | 1,e=>cases e;simp [World.cell?,hb3] | 2,e=>cases e;simp [World.cell?,hb3] | 3,e=>cases e;simp [World.cell?,hb3] | n + 4,e=>simp at e
       clear hG9 hI9 hL hb1 hb2 hb3 hb5
       have HBQ:Hid _:=b_step HQ.out HB5.out
       clear HCS lc0 lc1 lc2 lc3 pc0 pc1 pc2 pc3 wc0 wc1 wc2
       go_wp2_with (fail)
       go_meet
       case rel=>exact ⟨rfl,rfl,nb,rfl,CY,HBQ⟩
     case rest =>
      obtain ⟨rfl,rfl,nb,rfl,CY,HBQ⟩:=hcut
      have c1:=CY.out 3 _ rfl
      obtain ⟨e1,e2,e3⟩:=HKC.out
      clear HCS lc0 lc1 lc2 lc3 pc0 pc1 pc2 pc3 wc0 wc1 wc2 HKC
      rcases HFA.out with ⟨rfl,rfl,rfl,hA⟩ | ⟨j,y,rfl,rfl,rfl,hj,hy,hjy,hB⟩
      ·obtain ⟨q1,q2⟩:=hA k hk2
       obtain rfl:kc = 16:=by omega
       have hag:¬ ag < 0:=by omega
       clear e1 e2 e3 q1 q2 hA HFA
       go_wp2_with (fail)
       go_roundg gm
       case rel=>exact ⟨k + 1,by omega,by go_num,HBQ⟩
       omega
      ·obtain ⟨q1,q2⟩:=hB k hk2
       have hkp:¬ kc < (y:Int):=by omega
       by_cases hkj:k < j
       ·have hkj':(k:Int) < (j:Int):=by omega
        have hkn:¬ kc = (y:Int):=by have:=q2 hkj;omega
        clear e1 e2 e3 q1 q2 hB HFA hjy
        go_wp2_with (fail)
        go_roundg gm
        case rel=>exact ⟨k + 1,by omega,by go_num,HBQ⟩
        omega
       ·have hkj':¬ (k:Int) < (j:Int):=by omega
        clear e1 e2 e3 q1 q2 hB HFA hjy
        go_wp2_with (fail)
        go_roundg gm
        case rel=>exact ⟨k + 1,by omega,by go_num,HBQ⟩
        omega
theorem lifted (os:Os) (started:os.Started) (H:Type) (enc:TypeId × Value->H) :
  ReturnsInHanded {} Tryz.checked os 5 .any (Rows.sweepRaysSpec.pre6 enc Tryz.prog Tryz.f5 Rows.sweepRaysRow.domain false) (Rows.sweepRaysSpec.post enc Tryz.prog Tryz.f5 false true false false):=by
 refine returnsInHanded_of_change (C:=Tryz.checked) own started (by kernel_rfl) Tryz.func5
  (ChangeSpec.witness6 (enc:=enc) (C:=Tryz.checked) false ⟨#[],#[.agg #[.int .i64 0,.int .i64 0,.int .i64 0,.int .i64 0,.int .i64 0,.slice none 0 0,.int .i64 0,.int .i64 0,.int .i64 0,.int .i64 0,.int .i64 0,.slice none 0 0,.int .i64 0,.int .i64 0,.int .i64 0,.int .i64 0,.int .i64 0,.int .i64 0,.int .i64 0,.int .i64 0,.int .i64 0,.int .i64 0,.int .i64 0,.int .i64 0,.int .i64 0,.int .i64 0,.int .i64 0,.int .i64 0,.int .i64 0,.int .i64 0],.agg #[.int .i64 0,.int .i64 0,.int .i64 0],.agg #[.int .i64 0,.int .i64 0,.int .i64 0]],[]⟩ 8 (by kernel_rfl) (by kernel_rfl) (by kernel_rfl) (by kernel_rfl)) ?_
 intro W base args ds gs before hval0 hW hcnd _
 have hval:∀ (j:Nat) t v,Tryz.f5.params[j]? = some t->args[j]? = some v->Value.okWide Tryz.prog W .any base t v:=hval0
 have hW':=hW
 obtain ⟨p,q,hA0,hV,rfl,hfz,hnd⟩:=hW
 have hA:DataW.TrodAll enc Tryz.prog W 0 (fun _=>true) true Tryz.f5.params.toList args.toList ds p:=hA0
 rw [Tryz.params5] at hA hval
 obtain ⟨v0,vs0,d0,ds0,p0,q0,hargs,rfl,rfl,h0,r0⟩:=trodAll_cons hA
 obtain ⟨v1,vs1,d1,ds1,p1,q1,rfl,rfl,rfl,h1,r1⟩:=trodAll_cons r0
 obtain ⟨v2,vs2,d2,ds2,p2,q2,rfl,rfl,rfl,h2,r2⟩:=trodAll_cons r1
 obtain ⟨rfl,rfl,rfl⟩:=trodAll_nil r2
 obtain rfl:args = #[v0,v1,v2]:=by cases args;simp_all
 obtain ⟨rfl,rfl⟩:=trodVars_none hV
 have k0:=h0
 have lt0:∀ x ∈ p0,x.block < W.heap.size:=by obtain ⟨m,hm⟩:=k0;exact DataW.trod_lt m _ _ _ hm
 obtain ⟨k1t,r1t,x1t,y1t,z1t,o1t,L1t,c1t,k2t,r2t,x2t,y2t,z2t,o2t,L2t,c2t,p0t,p1t,p2t,p3t,p4t,p5t,p6t,q0t,q1t,q2t,q3t,q4t,q5t,q6t,nrt,wxt,wyt,wzt,rfl,hL1t,hF1t,hL2t,hF2t,hbst⟩:=open_two (hval 0 33 v0 rfl rfl) h0
 have k1:=h1
 have lt1:∀ x ∈ p1,x.block < W.heap.size:=by obtain ⟨m,hm⟩:=k1;exact DataW.trod_lt m _ _ _ hm
 obtain ⟨tx1,ty1,tz1,rfl,_,_,nx1,ny1,nz1⟩:=open_point (hval 1 23 v1 rfl rfl) h1
 have btx1_:=bounds_i64 nx1
 have bty1_:=bounds_i64 ny1
 have btz1_:=bounds_i64 nz1
 have k2:=h2
 have lt2:∀ x ∈ p2,x.block < W.heap.size:=by obtain ⟨m,hm⟩:=k2;exact DataW.trod_lt m _ _ _ hm
 obtain ⟨tx2,ty2,tz2,rfl,_,_,nx2,ny2,nz2⟩:=open_point (hval 2 23 v2 rfl rfl) h2
 have btx2_:=bounds_i64 nx2
 have bty2_:=bounds_i64 ny2
 have btz2_:=bounds_i64 nz2
 clear hA0 hval0
 refine (walk k1t r1t x1t y1t z1t o1t L1t c1t k2t r2t x2t y2t z2t o2t L2t c2t p0t p1t p2t p3t p4t p5t p6t q0t q1t q2t q3t q4t q5t q6t nrt wxt wyt wzt tx1 ty1 tz1 tx2 ty2 tz2 W hbst hL1t hF1t hL2t hF2t (by omega) (by omega) (by omega) (by omega) (by omega) (by omega)).mono fun e W' ⟨he,bel⟩=>?_
 subst he
 exact ⟨_,rfl,_,_,_,[],_,[],hW',trodAll_mk1 (shut_bool Tryz.underlying4 _),(trodAll_cons_mk (Below.trod laidOut (by kernel_rfl) (of_decide_eq_true (by kernel_rfl)) k0 bel lt0) (trodAll_cons_mk (Below.trod laidOut (by kernel_rfl) (of_decide_eq_true (by kernel_rfl)) k1 bel lt1) (trodAll_cons_mk (Below.trod laidOut (by kernel_rfl) (of_decide_eq_true (by kernel_rfl)) k2 bel lt2) trodAll_mk0))),rfl,bel.frame _,fun h=>by cases h⟩
theorem over:Rows.sweepRaysRow.holds Tryz.pinned (OpenSpec.ofChange Rows.sweepRaysSpec):=
 OpenClaim.holds_of_wide 5 Tryz.f5 rfl rfl rfl rfl rfl rfl rfl ⟨rfl,rfl,rfl,rfl,rfl⟩ rfl rfl rfl rfl rfl (by kernel_rfl) Tryz.func5 (by kernel_rfl)
  (of_decide_eq_true (by kernel_rfl)) (by unfold Func.isWrapper;first | (rw [if_pos (by decide +kernel)];kernel_rfl) | (rw [if_neg (by decide +kernel)];exact ⟨rfl,rfl⟩))
  (fun os started H enc _=>lifted os started H enc)
end sweepRays
theorem sweepRays_holds:Rows.SweepRaysSaid:=sweepRays.over
#print axioms sweepRays_holds
end
end Go.Proofs.YtgbofpbidbhleaaGreat
