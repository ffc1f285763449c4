/- Layer 12's raw bodies: Right, of every raw body. -/
import Derived.Test.YteebbpioffdncaaGreatEBBack17
import Derived.Test.YteebbpioffdncaaGreatEBBack22
import Derived.Test.YteebbpioffdncaaGreatEBBack19
import Derived.Test.YteebbpioffdncaaGreatEBBack25
import Derived.Deep.CutRange
import Derived.Test.YteebbpioffdncaaGreatEBBack24
import Derived.Test.YteebbpioffdncaaGreatEBBack15
import Derived.Test.YteebbpioffdncaaGreatEBBack8
import Derived.Test.YteebbpioffdncaaGreatEBBack20
import Derived.Test.YteebbpioffdncaaGreatEBBack16
set_option maxHeartbeats 16000000
set_option maxRecDepth 100000
set_option linter.unusedVariables false
namespace Go.Proofs.YteebbpioffdncaaGreat
open Go.Calls renaming mono -> JA
open Go.Region renaming binds -> JC
open Go renaming execOp -> JD
open Tryz
open Go.Value renaming int -> J
open Go.IntKind renaming i64 -> Y
section
open Go.RowKit Go.Shelf Fx
theorem Jk2 {w:World} {a b:Nat} {e:TypeId} {sz m:Nat} {v:Value} {xs:List Value} (hab:a <= b) (h:w.ownsRow b e sz v m xs):w.ownsRow a e sz v m xs:=by
 obtain ⟨h1,h2⟩:=h
 refine ⟨h1,?_⟩
 rcases h2 with h2 | ⟨g,cap,cur,e,hb,r⟩
 ·exact Or.inl h2
 ·exact Or.inr ⟨g,cap,cur,e,Nat.le_trans hab hb,r⟩
structure Ok12 (fx fa:Bool) (gr ma:Int) (b:Bd) (r:Rs):Prop where
 k:b.k = if fx then 1 else 2
 at_:Pt.inB ⟨b.s.x,b.s.y,b.s.z⟩ 4398046511104 = true
 wh:WM.Whole b.q.w b.q.x b.q.y b.q.z
 m:16777216 <= b.m/\b.m <= 1099511627776
 i:b.i = ⟨Jbr (Jfk r.sh b.m).x 4096,Jbr (Jfk r.sh b.m).y 4096,Jbr (Jfk r.sh b.m).z 4096⟩
 p:(-1099511627776 <= b.p.x/\b.p.x <= 1099511627776)/\(-1099511627776 <= b.p.y/\b.p.y <= 1099511627776)/\(-1099511627776 <= b.p.z/\b.p.z <= 1099511627776)
 l:(-68719476736 <= b.l.x/\b.l.x <= 68719476736)/\(-68719476736 <= b.l.y/\b.l.y <= 68719476736)/\(-68719476736 <= b.l.z/\b.l.z <= 68719476736)
 fx:fx = true->b.p = ⟨0,0,0⟩/\b.l = ⟨0,0,0⟩
 good:Good r.sh
 rest:r.g = gr/\r.ma = ma/\r.fa = fa/\r.qu = 0/\r.al = false/\r.ou = false/\0 <= r.fr/\r.fr <= 4294967296
theorem Jgn (k r hx hy hz:Int) (o:Option Addr) (Ls:List Pt) (c:Nat) (at0 at1 at2 qa qb_ qc qd ms fr p0 p1 p2 l0 l1 l2:Int) (fx fa:Bool) (gr ma:Int) (w0:World)
  (hb:∀ v ∈ ([k,r,hx,hy,hz,at0,at1,at2,qa,qb_,qc,qd,ms,fr,p0,p1,p2,l0,l1,l2,gr,ma]:List Int),-9223372036854775808 <= v/\v <= 9223372036854775807) (hL:Lies w0 (.slice o Ls.length c) Ls) (hF:∀ p ∈ Ls,p.fits) :
  Calls Tryz.prog 8 #[.agg #[J Y k,J Y r,J Y hx,J Y hy,J Y hz,.slice o Ls.length c,J Y at0,J Y at1,J Y at2,J Y qa,J Y qb_,J Y qc,J Y qd,J Y ms,J Y fr,J Y p0,J Y p1,J Y p2,J Y l0,J Y l1,J Y l2,.bool fx,.bool fa,J Y gr,J Y ma]] w0 fun e W=>∃ (b:Bd) (r:Rs) (u:Value),e = .returned (.agg ((Jcd b).L (r.l u)).toArray)/\Row w0 W u r.sh.pts/\Ok12 fx fa gr ma b r:=by
 have HR5:Hid _:=fun (w':World) (h:Below w0.heap.size w0 w')=>Jpr k r hx hy hz _ Ls w' (hb k (by simp)) (hb r (by simp)) (hb hx (by simp)) (hb hy (by simp)) (hb hz (by simp)) (hL.below h) hF
 have HPM:Hid _:=fun w'=>Je8 ms 1099494850561 w' (hb ms (by simp)) (by decide) (by decide)
 have HFR:Hid _:=fun w'=>Jf2 (Je8 fr 4294967297 w' (hb fr (by simp)) (by decide) (by decide))
 have HR6:Hid _:=fun w'=>Jmh at0 at1 at2 qa qb_ qc qd w' (hb at0 (by simp)) (hb at1 (by simp)) (hb at2 (by simp)) (hb qa (by simp)) (hb qb_ (by simp)) (hb qc (by simp)) (hb qd (by simp))
 have HVP:Hid _:=fun w'=>Jeo p0 p1 p2 1099511627776 w' (hb p0 (by simp)) (hb p1 (by simp)) (hb p2 (by simp)) (by decide)
 have HVL:Hid _:=fun w'=>Jeo l0 l1 l2 68719476736 w' (hb l0 (by simp)) (hb l1 (by simp)) (hb l2 (by simp)) (by decide)
 have ja0:=Ja2 p0 (m:=1099511627776) (by decide)
 have jb0:=Ja2 l0 (m:=68719476736) (by decide)
 generalize Jaf p0 1099511627776 = a0 at *
 generalize Jaf l0 68719476736 = b0 at *
 have ja1:=Ja2 p1 (m:=1099511627776) (by decide)
 have jb1:=Ja2 l1 (m:=68719476736) (by decide)
 generalize Jaf p1 1099511627776 = a1 at *
 generalize Jaf l1 68719476736 = b1 at *
 have ja2:=Ja2 p2 (m:=1099511627776) (by decide)
 have jb2:=Ja2 l2 (m:=68719476736) (by decide)
 generalize Jaf p2 1099511627776 = a2 at *
 generalize Jaf l2 68719476736 = b2 at *
 have jm0:=Jbt ms (n:=1099494850561) (by decide)
 have jm1:=Jbs ms (n:=1099494850561) (by decide)
 have jf0:=Jbt fr (n:=4294967297) (by decide)
 have jf1:=Jbs fr (n:=4294967297) (by decide)
 generalize Jbg ms 1099494850561 = mp at *
 generalize Jbg fr 4294967297 = fn at *
 obtain ⟨m,hm⟩:∃ x,16777216 + mp = x:=⟨_,rfl⟩
 have w_m:IntKind.i64.wrap (16777216 + mp) = m:=by rw [hm,IntKind.wrap_i64];omega
 have HJ:Hid ((16777216 <= m/\m <= 1099511627776)/\(0 <= fn/\fn <= 4294967296)/\(-1099511627776 <= a0/\a0 <= 1099511627776)/\(-1099511627776 <= a1/\a1 <= 1099511627776)/\(-1099511627776 <= a2/\a2 <= 1099511627776)/\(-68719476736 <= b0/\b0 <= 68719476736)/\(-68719476736 <= b1/\b1 <= 68719476736)/\(-68719476736 <= b2/\b2 <= 68719476736)):=by show _/\_;omega
 clear hb hL hF hm jm0 jm1 jf0 jf1 ja0 jb0 ja1 jb1 ja2 jb2
 obtain ⟨V0,hV0⟩:∃ V,V = w0.alloc (.cells #[J Y k,J Y r,J Y hx,J Y hy,J Y hz,.slice o Ls.length c,J Y at0,J Y at1,J Y at2,J Y qa,J Y qb_,J Y qc,J Y qd,J Y ms,J Y fr,J Y p0,J Y p1,J Y p2,J Y l0,J Y l1,J Y l2,.bool fx,.bool fa,J Y gr,J Y ma] 33):=⟨_,rfl⟩
 obtain ⟨V1,hV1⟩:∃ V,V = V0.alloc (.cells #[J Y 0,J Y 0,J Y 0,J Y 0,J Y 0,J Y 0,J Y 0,J Y 0,J Y 0,J Y 0,J Y 0,J Y 0,J Y 0,J Y 0,J Y 0,J Y 0,J Y 0,J Y 0,J Y 0,J Y 0,J Y 0,J Y 0,J Y 0,.slice none 0 0,J Y 0,J Y 0,J Y 0,.bool false,J Y 0,.bool false,.bool false] 39):=⟨_,rfl⟩
 obtain ⟨tb,htb⟩:∃ b,b = w0.heap.size:=⟨_,rfl⟩
 obtain ⟨rb,hrb⟩:∃ b,b = w0.heap.size + 1:=⟨_,rfl⟩
 have z0:V0.heap.size = w0.heap.size + 1:=by rw [hV0,World.size_alloc]
 have k0:=Jb w0 (.cells #[J Y k,J Y r,J Y hx,J Y hy,J Y hz,.slice o Ls.length c,J Y at0,J Y at1,J Y at2,J Y qa,J Y qb_,J Y qc,J Y qd,J Y ms,J Y fr,J Y p0,J Y p1,J Y p2,J Y l0,J Y l1,J Y l2,.bool fx,.bool fa,J Y gr,J Y ma] 33)
 have k1:=Jb V0 (.cells #[J Y 0,J Y 0,J Y 0,J Y 0,J Y 0,J Y 0,J Y 0,J Y 0,J Y 0,J Y 0,J Y 0,J Y 0,J Y 0,J Y 0,J Y 0,J Y 0,J Y 0,J Y 0,J Y 0,J Y 0,J Y 0,J Y 0,J Y 0,.slice none 0 0,J Y 0,J Y 0,J Y 0,.bool false,J Y 0,.bool false,.bool false] 39)
 rw [<- hV0] at k0
 rw [<- hV1] at k1
 have n0:=CW.new w0 [J Y k,J Y r,J Y hx,J Y hy,J Y hz,.slice o Ls.length c,J Y at0,J Y at1,J Y at2,J Y qa,J Y qb_,J Y qc,J Y qd,J Y ms,J Y fr,J Y p0,J Y p1,J Y p2,J Y l0,J Y l1,J Y l2,.bool fx,.bool fa,J Y gr,J Y ma] 33
 have n1:=CW.new V0 [J Y 0,J Y 0,J Y 0,J Y 0,J Y 0,J Y 0,J Y 0,J Y 0,J Y 0,J Y 0,J Y 0,J Y 0,J Y 0,J Y 0,J Y 0,J Y 0,J Y 0,J Y 0,J Y 0,J Y 0,J Y 0,J Y 0,J Y 0,.slice none 0 0,J Y 0,J Y 0,J Y 0,.bool false,J Y 0,.bool false,.bool false] 39
 rw [<- hV0,<- htb] at n0
 rw [<- hV1,z0,<- hrb] at n1
 have CT:Hid (CW V1 tb [J Y k,J Y r,J Y hx,J Y hy,J Y hz,.slice o Ls.length c,J Y at0,J Y at1,J Y at2,J Y qa,J Y qb_,J Y qc,J Y qd,J Y ms,J Y fr,J Y p0,J Y p1,J Y p2,J Y l0,J Y l1,J Y l2,.bool fx,.bool fa,J Y gr,J Y ma]):=n0.step k1
 have CR:Hid (CW V1 rb [J Y 0,J Y 0,J Y 0,J Y 0,J Y 0,J Y 0,J Y 0,J Y 0,J Y 0,J Y 0,J Y 0,J Y 0,J Y 0,J Y 0,J Y 0,J Y 0,J Y 0,J Y 0,J Y 0,J Y 0,J Y 0,J Y 0,J Y 0,.slice none 0 0,J Y 0,J Y 0,J Y 0,.bool false,J Y 0,.bool false,.bool false]):=n1
 have HB:Hid (Below w0.heap.size w0 V1):=Jf k0 k1
 have HRB:Hid (w0.heap.size <= rb/\rb < V1.heap.size):=by have:=CW.lt n1;show _/\_;omega
 clear n0 n1 k0 k1
 have c0:=(CT.out 0 _ rfl).1
 have c1:=(CT.out 1 _ rfl).1
 have c2:=(CT.out 2 _ rfl).1
 have c3:=(CT.out 3 _ rfl).1
 have c4:=(CT.out 4 _ rfl).1
 have c5:=(CT.out 5 _ rfl).1
 go_enter func8,ntmps8
 go_upto_region 1 with fail
 rw [<- hV0,<- hV1,<- hrb,<- htb]
 clear hV0 hV1 htb hrb z0
 go_wp2_with (fail)
 refine JA (HR5.out _ HB.out) ?_
 rintro e V2 ⟨s,u,rfl,hrow,hgood,_⟩
 obtain ⟨uo,uc,rfl,_⟩:=hrow.lies.form
 have hb2:=hrow.below
 have CT:Hid (CW _ _ _):=CT.out.step hb2
 have CR:Hid (CW _ _ _):=CR.out.step hb2
 have HB:Hid (Below w0.heap.size w0 V2):=Jf HB.out hb2
 clear hb2 c0 c1 c2 c3 c4 c5 HR5
 obtain ⟨V3,hV3⟩:∃ V,V = V2.alloc (.cells #[J Y s.kind,J Y s.radius,J Y s.half.x,J Y s.half.y,J Y s.half.z,.slice uo s.pts.length uc] 37):=⟨_,rfl⟩
 obtain ⟨sb,hsb⟩:∃ b,b = V2.heap.size:=⟨_,rfl⟩
 have hb3:Below V2.heap.size V2 V3:=by rw [hV3];exact Jb _ _
 have CS:Hid (CW V3 sb [J Y s.kind,J Y s.radius,J Y s.half.x,J Y s.half.y,J Y s.half.z,.slice uo s.pts.length uc]):=by show CW _ _ _;rw [hV3,hsb];exact CW.new _ [J Y s.kind,J Y s.radius,J Y s.half.x,J Y s.half.y,J Y s.half.z,.slice uo s.pts.length uc] _
 have CT:Hid (CW _ _ _):=CT.out.step hb3
 have CR:Hid (CW _ _ _):=CR.out.step hb3
 have HB:Hid (Below w0.heap.size w0 V3):=Jf HB.out hb3
 have HRW:Hid (Row V1 V3 (.slice uo s.pts.length uc) s.pts):=hrow.step hb3
 have HGD:Hid (Good s):=hgood
 unfold Sh.v
 clear hrow hgood
 go_upto_region 2 with fail
 rw [<- hV3,<- hsb]
 clear hV3 hsb hb3
 have c13:=(CT.out 13 _ rfl).1
 go_wp2_with (fail)
 refine JA (HPM.out _) ?_
 rintro e V4 ⟨rfl,h4⟩
 obtain rfl:V3 = V4:=h4.symm
 clear HPM c13
 have s0_:=(CS.out 0 _ rfl).1
 have s1_:=(CS.out 1 _ rfl).1
 have s2_:=(CS.out 2 _ rfl).1
 have s3_:=(CS.out 3 _ rfl).1
 have s4_:=(CS.out 4 _ rfl).1
 have s5_:=(CS.out 5 _ rfl).1
 have HMS:Hid _:=Jq5 s (.slice uo s.pts.length uc) m V3 HRW.out.lies (HGD.out.ok) HJ.out.1.1 HJ.out.1.2
 unfold Sh.v at HMS
 obtain ⟨ix,hix⟩:∃ x,Jbr (Jfk s m).x 4096 = x:=⟨_,rfl⟩
 obtain ⟨iy,hiy⟩:∃ x,Jbr (Jfk s m).y 4096 = x:=⟨_,rfl⟩
 obtain ⟨iz,hiz⟩:∃ x,Jbr (Jfk s m).z 4096 = x:=⟨_,rfl⟩
 rw [hix,hiy,hiz] at HMS
 have HIN:Hid _:=And.intro hix (And.intro hiy hiz)
 clear hix hiy hiz
 go_upto_region 3 with fail
 try simp only [w_m]
 clear w_m
 go_wp2_with (fail)
 refine JA HMS.out ?_
 rintro e V4 ⟨rfl,hb4⟩
 obtain ⟨V5,hV5⟩:∃ V,V = V4.alloc (.cells #[J Y m,J Y ix,J Y iy,J Y iz] 36):=⟨_,rfl⟩
 obtain ⟨mb,hmb⟩:∃ b,b = V4.heap.size:=⟨_,rfl⟩
 have hb5:Below V4.heap.size V4 V5:=by rw [hV5];exact Jb _ _
 have CM:Hid (CW V5 mb [J Y m,J Y ix,J Y iy,J Y iz]):=by show CW _ _ _;rw [hV5,hmb];exact CW.new _ [J Y m,J Y ix,J Y iy,J Y iz] _
 have hb45:=Jf hb4 hb5
 have CT:Hid (CW _ _ _):=CT.out.step hb45
 have CR:Hid (CW _ _ _):=CR.out.step hb45
 have HB:Hid (Below w0.heap.size w0 V5):=Jf HB.out hb45
 have CS:Hid (CW _ _ _):=CS.out.step hb45
 have HRW:Hid (Row V1 V5 (.slice uo s.pts.length uc) s.pts):=HRW.out.step hb45
 clear hb4 hb45 HMS s0_ s1_ s2_ s3_ s4_ s5_
 go_upto_region 4 with fail
 rw [<- hV5,<- hmb]
 clear hV5 hmb hb5
 have c0:=(CT.out 0 _ rfl).1
 have c1:=(CT.out 1 _ rfl).1
 have c2:=(CT.out 2 _ rfl).1
 have c3:=(CT.out 3 _ rfl).1
 have c4:=(CT.out 4 _ rfl).1
 have c5:=(CT.out 5 _ rfl).1
 have c6:=(CT.out 6 _ rfl).1
 have c7:=(CT.out 7 _ rfl).1
 have c8:=(CT.out 8 _ rfl).1
 have c9:=(CT.out 9 _ rfl).1
 have c10:=(CT.out 10 _ rfl).1
 have c11:=(CT.out 11 _ rfl).1
 have c12:=(CT.out 12 _ rfl).1
 have c13:=(CT.out 13 _ rfl).1
 have c14:=(CT.out 14 _ rfl).1
 have c15:=(CT.out 15 _ rfl).1
 have c16:=(CT.out 16 _ rfl).1
 have c17:=(CT.out 17 _ rfl).1
 have c18:=(CT.out 18 _ rfl).1
 have c19:=(CT.out 19 _ rfl).1
 have c20:=(CT.out 20 _ rfl).1
 have c21:=(CT.out 21 _ rfl).1
 have c22:=(CT.out 22 _ rfl).1
 have c23:=(CT.out 23 _ rfl).1
 have c24:=(CT.out 24 _ rfl).1
 have s0_:=(CS.out 0 _ rfl).1
 have s1_:=(CS.out 1 _ rfl).1
 have s2_:=(CS.out 2 _ rfl).1
 have s3_:=(CS.out 3 _ rfl).1
 have s4_:=(CS.out 4 _ rfl).1
 have s5_:=(CS.out 5 _ rfl).1
 have m0:=(CM.out 0 _ rfl).1
 have m1:=(CM.out 1 _ rfl).1
 have m2:=(CM.out 2 _ rfl).1
 have m3:=(CM.out 3 _ rfl).1
 have HOC:Hid (∀ (t:Pt) (q:Q4),([J Y 2,J Y t.x,J Y t.y,J Y t.z,J Y q.w,J Y q.x,J Y q.y,J Y q.z,J Y a0,J Y a1,J Y a2,J Y b0,J Y b1,J Y b2,J Y m,J Y ix,J Y iy,J Y iz,J Y s.kind,J Y s.radius,J Y s.half.x,J Y s.half.y,J Y s.half.z,.slice uo s.pts.length uc,J Y gr,J Y ma,J Y fn,.bool fa,J Y 0,.bool false,.bool false]:List Value).toArray.all (·.oneCell') = true):=fun t q=>(Rs.rest ⟨s,gr,ma,fn,fa,0,false,false⟩ (pv:=.slice uo s.pts.length uc) rfl).rest.each ⟨2,⟨t.x,t.y,t.z⟩,⟨q.w,q.x,q.y,q.z⟩,⟨a0,a1,a2⟩,⟨b0,b1,b2⟩,m,⟨ix,iy,iz⟩⟩
 have HVV:Hid (V1.heap.size <= V5.heap.size):=HRW.out.below.size
 go_cut [1,2,7] from 0 to 44 (fun s1 s2 s7 wx=>s1 = .pointer (some ⟨tb,0,none⟩)/\s2 = .pointer (some ⟨rb,0,none⟩)/\∃ (b9:Nat) (t:Pt) (q:Q4),s7 = .pointer (some ⟨b9,0,none⟩)/\Hid (CW wx b9 [J Y 2,J Y t.x,J Y t.y,J Y t.z,J Y q.w,J Y q.x,J Y q.y,J Y q.z,J Y a0,J Y a1,J Y a2,J Y b0,J Y b1,J Y b2,J Y m,J Y ix,J Y iy,J Y iz,J Y s.kind,J Y s.radius,J Y s.half.x,J Y s.half.y,J Y s.half.z,.slice uo s.pts.length uc,J Y gr,J Y ma,J Y fn,.bool fa,J Y 0,.bool false,.bool false])/\Hid (V5.heap.size <= b9)/\Hid (Below V5.heap.size V5 wx)/\t.inB 4398046511104 = true/\WM.Whole q.w q.x q.y q.z)
 case first =>
  refine RV.rs [.some (.pointer (some ⟨tb,6,none⟩)),.some (.agg #[J Y at0,J Y at1,J Y at2,J Y qa,J Y qb_,J Y qc,J Y qd]),none,.some (.pointer (some ⟨tb,15,none⟩)),.some (.agg #[J Y p0,J Y p1,J Y p2]),.some (.agg #[J Y a0,J Y a1,J Y a2]),.some (.pointer (some ⟨tb,18,none⟩)),.some (.agg #[J Y l0,J Y l1,J Y l2]),.some (.agg #[J Y b0,J Y b1,J Y b2]),.some (.agg #[J Y m,J Y ix,J Y iy,J Y iz]),.some (.agg #[J Y s.kind,J Y s.radius,J Y s.half.x,J Y s.half.y,J Y s.half.z,.slice uo s.pts.length uc]),.some (.pointer (some ⟨tb,23,none⟩)),.some (J Y gr),.some (.pointer (some ⟨tb,24,none⟩)),.some (J Y ma),.some (.pointer (some ⟨tb,14,none⟩)),.some (J Y fr),.some (J Y fn),.some (.pointer (some ⟨tb,22,none⟩)),.some (.bool fa),none,none,none] [25,26,27,28,29,30,31,32,33,34,35,36,37,38,39,40,41,42,43,44,45,8,0] [(1,.pointer (some ⟨tb,0,none⟩)),(5,.pointer (some ⟨mb,0,none⟩)),(3,.pointer (some ⟨sb,0,none⟩))] (fun γ L w=>RG V5 (fun (t:Pt) (q:Q4)=>t.inB 4398046511104 = true/\WM.Whole q.w q.x q.y q.z) (fun t q=>[J Y 2,J Y t.x,J Y t.y,J Y t.z,J Y q.w,J Y q.x,J Y q.y,J Y q.z,J Y a0,J Y a1,J Y a2,J Y b0,J Y b1,J Y b2,J Y m,J Y ix,J Y iy,J Y iz,J Y s.kind,J Y s.radius,J Y s.half.x,J Y s.half.y,J Y s.half.z,.slice uo s.pts.length uc,J Y gr,J Y ma,J Y fn,.bool fa,J Y 0,.bool false,.bool false]) γ L w) ⟨rfl,rfl,rfl,trivial⟩ (RG.start (Below.refl _ V5).drew rfl) ?_ ?_
  ·intro D WA Z hD hWA hZ T
   simp only [RV.Outs,RV.Slots,Nat.reduceAdd] at T
   (refine RV.cc _ (RV.pu T (fun γ v L w hl h=>h.other _ (by decide) (by decide) (by decide) (by decide)) (fun γ L a w hH hl h9 k9=>⟨_,?_,rfl⟩)) ?_;· simp [JD,go_sem,h9])
   (refine RV.cc _ (RV.pu T (fun γ v L w hl h=>h.other _ (by decide) (by decide) (by decide) (by decide)) (fun γ L a w hH hl h9 k9=>⟨_,?_,rfl⟩)) ?_;· have dc6:=Ja hH.glob.1 c6;have dc7:=Ja hH.glob.1 c7;have dc8:=Ja hH.glob.1 c8;have dc9:=Ja hH.glob.1 c9;have dc10:=Ja hH.glob.1 c10;have dc11:=Ja hH.glob.1 c11;have dc12:=Ja hH.glob.1 c12;simp [JC] at k9;simp [JD,go_sem,h9,k9,dc6,dc7,dc8,dc9,dc10,dc11,dc12])
   refine RV.cc _ (RV.dc (fun γ L a w hH hl hA=>by have h9:=T γ L a w hH;have k9:=hA;simp [JC] at k9;exact ⟨_,_,by simp [go_sem,h9,k9],JA (HR6.out w) (by rintro e w2 ⟨t9,q9,rfl,o1,o2,hb⟩;exact ⟨_,rfl,trivial,fun j v _ h=>h.keep _,hH.glob.got ⟨o1,o2⟩ hb⟩)⟩)) ?_
   (refine RV.cc _ (RV.pu T (fun γ v L w hl h=>h.other _ (by decide) (by decide) (by decide) (by decide)) (fun γ L a w hH hl h9 k9=>⟨_,?_,rfl⟩)) ?_;· simp [JD,go_sem,h9])
   (refine RV.cc _ (RV.pu T (fun γ v L w hl h=>h.other _ (by decide) (by decide) (by decide) (by decide)) (fun γ L a w hH hl h9 k9=>⟨_,?_,rfl⟩)) ?_;· have dc15:=Ja hH.glob.1 c15;have dc16:=Ja hH.glob.1 c16;have dc17:=Ja hH.glob.1 c17;simp [JC] at k9;simp [JD,go_sem,h9,k9,dc15,dc16,dc17])
   refine RV.cc _ (RV.dc (fun γ L a w hH hl hA=>by have h9:=T γ L a w hH;have k9:=hA;simp [JC] at k9;exact ⟨_,_,by simp [go_sem,h9,k9],JA (HVP.out w) (by rintro e w2 ⟨rfl,hb⟩;exact ⟨_,rfl,rfl,fun j v _ h=>h.keep _,(hH.glob.below hb).other _ (by decide) (by decide) (by decide) (by decide)⟩)⟩)) ?_
   (refine RV.cc _ (RV.pu T (fun γ v L w hl h=>h.other _ (by decide) (by decide) (by decide) (by decide)) (fun γ L a w hH hl h9 k9=>⟨_,?_,rfl⟩)) ?_;· simp [JD,go_sem,h9])
   (refine RV.cc _ (RV.pu T (fun γ v L w hl h=>h.other _ (by decide) (by decide) (by decide) (by decide)) (fun γ L a w hH hl h9 k9=>⟨_,?_,rfl⟩)) ?_;· have dc18:=Ja hH.glob.1 c18;have dc19:=Ja hH.glob.1 c19;have dc20:=Ja hH.glob.1 c20;simp [JC] at k9;simp [JD,go_sem,h9,k9,dc18,dc19,dc20])
   refine RV.cc _ (RV.dc (fun γ L a w hH hl hA=>by have h9:=T γ L a w hH;have k9:=hA;simp [JC] at k9;exact ⟨_,_,by simp [go_sem,h9,k9],JA (HVL.out w) (by rintro e w2 ⟨rfl,hb⟩;exact ⟨_,rfl,rfl,fun j v _ h=>h.keep _,(hH.glob.below hb).other _ (by decide) (by decide) (by decide) (by decide)⟩)⟩)) ?_
   (refine RV.cc _ (RV.pu T (fun γ v L w hl h=>h.other _ (by decide) (by decide) (by decide) (by decide)) (fun γ L a w hH hl h9 k9=>⟨_,?_,rfl⟩)) ?_;· have dm0:=Ja hH.glob.1 m0;have dm1:=Ja hH.glob.1 m1;have dm2:=Ja hH.glob.1 m2;have dm3:=Ja hH.glob.1 m3;simp [JD,go_sem,h9,dm0,dm1,dm2,dm3])
   (refine RV.cc _ (RV.pu T (fun γ v L w hl h=>h.other _ (by decide) (by decide) (by decide) (by decide)) (fun γ L a w hH hl h9 k9=>⟨_,?_,rfl⟩)) ?_;· have ds0_:=Ja hH.glob.1 s0_;have ds1_:=Ja hH.glob.1 s1_;have ds2_:=Ja hH.glob.1 s2_;have ds3_:=Ja hH.glob.1 s3_;have ds4_:=Ja hH.glob.1 s4_;have ds5_:=Ja hH.glob.1 s5_;simp [JD,go_sem,h9,ds0_,ds1_,ds2_,ds3_,ds4_,ds5_])
   (refine RV.cc _ (RV.pu T (fun γ v L w hl h=>h.other _ (by decide) (by decide) (by decide) (by decide)) (fun γ L a w hH hl h9 k9=>⟨_,?_,rfl⟩)) ?_;· simp [JD,go_sem,h9])
   (refine RV.cc _ (RV.pu T (fun γ v L w hl h=>h.other _ (by decide) (by decide) (by decide) (by decide)) (fun γ L a w hH hl h9 k9=>⟨_,?_,rfl⟩)) ?_;· have dc23:=Ja hH.glob.1 c23;simp [JC] at k9;simp [JD,go_sem,h9,k9,dc23])
   (refine RV.cc _ (RV.pu T (fun γ v L w hl h=>h.other _ (by decide) (by decide) (by decide) (by decide)) (fun γ L a w hH hl h9 k9=>⟨_,?_,rfl⟩)) ?_;· simp [JD,go_sem,h9])
   (refine RV.cc _ (RV.pu T (fun γ v L w hl h=>h.other _ (by decide) (by decide) (by decide) (by decide)) (fun γ L a w hH hl h9 k9=>⟨_,?_,rfl⟩)) ?_;· have dc24:=Ja hH.glob.1 c24;simp [JC] at k9;simp [JD,go_sem,h9,k9,dc24])
   (refine RV.cc _ (RV.pu T (fun γ v L w hl h=>h.other _ (by decide) (by decide) (by decide) (by decide)) (fun γ L a w hH hl h9 k9=>⟨_,?_,rfl⟩)) ?_;· simp [JD,go_sem,h9])
   (refine RV.cc _ (RV.pu T (fun γ v L w hl h=>h.other _ (by decide) (by decide) (by decide) (by decide)) (fun γ L a w hH hl h9 k9=>⟨_,?_,rfl⟩)) ?_;· have dc14:=Ja hH.glob.1 c14;simp [JC] at k9;simp [JD,go_sem,h9,k9,dc14])
   refine RV.cc _ (RV.dc (fun γ L a w hH hl hA=>by have h9:=T γ L a w hH;have k9:=hA;simp [JC] at k9;exact ⟨_,_,by simp [go_sem,h9,k9],JA (HFR.out w) (by rintro e w2 ⟨rfl,hb⟩;exact ⟨_,rfl,rfl,fun j v _ h=>h.keep _,(hH.glob.below hb).other _ (by decide) (by decide) (by decide) (by decide)⟩)⟩)) ?_
   (refine RV.cc _ (RV.pu T (fun γ v L w hl h=>h.other _ (by decide) (by decide) (by decide) (by decide)) (fun γ L a w hH hl h9 k9=>⟨_,?_,rfl⟩)) ?_;· simp [JD,go_sem,h9])
   (refine RV.cc _ (RV.pu T (fun γ v L w hl h=>h.other _ (by decide) (by decide) (by decide) (by decide)) (fun γ L a w hH hl h9 k9=>⟨_,?_,rfl⟩)) ?_;· have dc22:=Ja hH.glob.1 c22;simp [JC] at k9;simp [JD,go_sem,h9,k9,dc22])
   refine RV.cc _ (RV.does_step (fun γ L a w hH hl hA=>by have h9:=T γ L a w hH;have k9:=hA;simp [JC] at k9;have l0:L 2 = true:=hA ⟨2,.data⟩ (by simp) rfl;have e0:=hH.slot 2 26 (by rw [<- hD];rfl) l0;obtain ⟨t9,q9,o1,e1⟩:=hH.glob.2.1 l0;rw [e1] at e0;unfold Jnt at e0;exact ⟨_,w,by simp [JD,go_sem,h9,k9,e0],trivial,fun j v _ h=>h,hH.glob.put o1⟩)) ?_
   refine RV.cc _ (RV.does_step (fun γ L a w hH hl hA=>by exact ⟨.pointer (some ⟨w.heap.size,0,none⟩),w.alloc (.cells #[J Y 0,J Y 0,J Y 0,J Y 0,J Y 0,J Y 0,J Y 0,J Y 0,J Y 0,J Y 0,J Y 0,J Y 0,J Y 0,J Y 0,J Y 0,J Y 0,J Y 0,J Y 0,J Y 0,J Y 0,J Y 0,J Y 0,J Y 0,.slice none 0 0,J Y 0,J Y 0,J Y 0,.bool false,J Y 0,.bool false,.bool false] 39),by simp [JD,go_sem],trivial,fun j v _ h=>h.keep _,hH.glob.made (RV.ny hH (RV.wt (j:=22) (i:=21) hWA (by kernel_rfl)) hl) [J Y 0,J Y 0,J Y 0,J Y 0,J Y 0,J Y 0,J Y 0,J Y 0,J Y 0,J Y 0,J Y 0,J Y 0,J Y 0,J Y 0,J Y 0,J Y 0,J Y 0,J Y 0,J Y 0,J Y 0,J Y 0,J Y 0,J Y 0,.slice none 0 0,J Y 0,J Y 0,J Y 0,.bool false,J Y 0,.bool false,.bool false] rfl⟩)) ?_
   refine RV.cc _ (RV.does_store (fun γ L a w hH hl hA=>by have l0:L 21 = true:=hA ⟨21,.data⟩ (by simp) rfl;have l8:L 20 = true:=hA ⟨20,.data⟩ (by simp) rfl;have e0:=hH.slot 21 7 (by rw [<- hD];rfl) l0;have e8:=hH.slot 20 44 (by rw [<- hD];rfl) l8;obtain ⟨b9,cs,hb1,hb2,hb3,hb4,_⟩:=hH.glob.2.2.2 l0;obtain ⟨t9,q9,o1,q1⟩:=hH.glob.2.2.1 l8;rw [hb1] at e0;rw [q1] at e8;have hfl:=hH.glob.fill hb1 hb2 hb3 hb4 o1 rfl;exact ⟨_,Jcy 39 _ _ rfl b9 0 _ (by simp [Act.eval,e0]) (by simp [Act.eval,e8]) (by rw [List.size_toArray];have ht:=hb3.there;rw [hb4] at ht;exact ht) (by kernel_rfl) (HOC.out t9 q9),trivial,fun j v _ h=>h.keep _,hfl _⟩)) ?_
   exact RV.AllDo.nil
  ·intro γ w5 L9 hL hI9 hG9
   obtain ⟨b9,cs,hb1,hb2,hb3,_,hb5⟩:=hG9.2.2.2 (hL 21 (by decide))
   obtain ⟨t,q,⟨o1,o2⟩,hcs⟩:=hb5 (hL 22 (by decide))
   rw [hcs] at hb3
   have HB5:Hid (Below V5.heap.size V5 w5):=hG9.1
   simp only [RV.putL,Act.put,List.setIfInBounds_toArray,List.set_cons_zero,List.set_cons_succ,Nat.reduceAdd]
   rw [hb1]
   have HC5:Hid (CW w5 b9 [J Y 2,J Y t.x,J Y t.y,J Y t.z,J Y q.w,J Y q.x,J Y q.y,J Y q.z,J Y a0,J Y a1,J Y a2,J Y b0,J Y b1,J Y b2,J Y m,J Y ix,J Y iy,J Y iz,J Y s.kind,J Y s.radius,J Y s.half.x,J Y s.half.y,J Y s.half.z,.slice uo s.pts.length uc,J Y gr,J Y ma,J Y fn,.bool fa,J Y 0,.bool false,.bool false]):=hb3
   have HGE:Hid (V5.heap.size <= b9):=hb2
   clear hG9 hI9 hL hb1 hb2 hb3 hb5 hcs
   go_wp2_with (fail)
   go_meet
   case rel=>exact ⟨rfl,rfl,b9,t,q,rfl,HC5,HGE,HB5,o1,o2⟩
 case rest =>
  obtain ⟨rfl,rfl,b9,t,q,rfl,HC5,HGE,HB5,o1,o2⟩:=hcut
  have CT:Hid (CW _ _ _):=CT.out.step HB5.out
  have CR:Hid (CW wc rb [J Y 0,J Y 0,J Y 0,J Y 0,J Y 0,J Y 0,J Y 0,J Y 0,J Y 0,J Y 0,J Y 0,J Y 0,J Y 0,J Y 0,J Y 0,J Y 0,J Y 0,J Y 0,J Y 0,J Y 0,J Y 0,J Y 0,J Y 0,.slice none 0 0,J Y 0,J Y 0,J Y 0,.bool false,J Y 0,.bool false,.bool false]):=CR.out.step HB5.out
  have HB:Hid (Below w0.heap.size w0 wc):=Jf HB.out HB5.out
  clear c0 c1 c2 c3 c4 c5 c6 c7 c8 c9 c10 c11 c12 c13 c14 c15 c16 c17 c18 c19 c20 c21 c22 c23 c24 s0_ s1_ s2_ s3_ s4_ s5_ m0 m1 m2 m3 HR6 HVP HVL HFR CM CS
  have f21:=(CT.out 21 _ rfl).1
  cases fx with
  | false =>
   obtain ⟨X,hX⟩:∃ V,V = wc:=⟨_,rfl⟩
   obtain ⟨b0_,hbe⟩:∃ b,(⟨2,⟨t.x,t.y,t.z⟩,⟨q.w,q.x,q.y,q.z⟩,⟨a0,a1,a2⟩,⟨b0,b1,b2⟩,m,⟨ix,iy,iz⟩⟩:Bd) = b:=⟨_,rfl⟩
   have HCX:Hid (CW wc b9 ((⟨2,⟨t.x,t.y,t.z⟩,⟨q.w,q.x,q.y,q.z⟩,⟨a0,a1,a2⟩,⟨b0,b1,b2⟩,m,⟨ix,iy,iz⟩⟩:Bd).L (Rs.l ⟨s,gr,ma,fn,fa,0,false,false⟩ (.slice uo s.pts.length uc)))):=HC5.out
   rw [hbe] at HCX
   have HBE:Hid _:=hbe
   have CRX:=CR
   have HWX:=HB5
   have HB0:=HB
   clear hbe HC5 CR HB5 HB CT
   go_upto_region 9 with fail
   rw [<- hX] at HCX CRX HWX HB0 ⊢
   clear hX f21
   have e64:(2:Nat) ^ 64 = 18446744073709551616:=by decide
   have hsp:Sml 64 b0_.p:=by rw [<- HBE.out];unfold Sml;rw [e64];dsimp only;have:=HJ.out;omega
   have hsl:Sml 64 b0_.l:=by rw [<- HBE.out];unfold Sml;rw [e64];dsimp only;have:=HJ.out;omega
   clear e64
   have hRst:Rest (Rs.l ⟨s,gr,ma,fn,fa,0,false,false⟩ (.slice uo s.pts.length uc)):=(Rs.rest _ rfl).rest
   obtain ⟨Rl,hRl⟩:∃ x,(Rs.l ⟨s,gr,ma,fn,fa,0,false,false⟩ (.slice uo s.pts.length uc)) = x:=⟨_,rfl⟩
   rw [hRl] at HCX hRst
   have HRL:Hid _:=hRl
   clear hRl
   obtain ⟨X1,hX1⟩:∃ V,V = X.alloc (.cells #[.bool false] 53):=⟨_,rfl⟩
   obtain ⟨pw,hpw⟩:∃ b,b = X.heap.size:=⟨_,rfl⟩
   have hb1:Below X.heap.size X X1:=by rw [hX1];exact Jb _ _
   have Cw:CW X1 pw [.bool false]:=by rw [hX1,hpw];exact CW.new X [.bool false] 53
   have nb:b9 ≠ pw:=by have:=CW.lt HCX.out;omega
   have nr:rb ≠ pw:=by have:=CW.lt CRX.out;omega
   have hpwV:V5.heap.size <= pw:=by have:=HWX.out.size;omega
   have hpw0:w0.heap.size <= pw:=by have:=HB0.out.size;omega
   have HCX:Hid (CW X1 b9 (b0_.L Rl)):=HCX.out.step hb1
   have CRX:Hid (CW X1 rb [J Y 0,J Y 0,J Y 0,J Y 0,J Y 0,J Y 0,J Y 0,J Y 0,J Y 0,J Y 0,J Y 0,J Y 0,J Y 0,J Y 0,J Y 0,J Y 0,J Y 0,J Y 0,J Y 0,J Y 0,J Y 0,J Y 0,J Y 0,.slice none 0 0,J Y 0,J Y 0,J Y 0,.bool false,J Y 0,.bool false,.bool false]):=CRX.out.step hb1
   have HWX:Hid (Below V5.heap.size V5 X1):=Jf HWX.out hb1
   have HB0:Hid (Below w0.heap.size w0 X1):=Jf HB0.out hb1
   have HCap:Hid _:=Jj7 pw 0 false b0_ Rl hRst hsp hsl X1 (Cw 0 _ rfl).1 (Cw 0 _ rfl).2
   have HRG:Hid (World.rangeAt X1 b9 0 (b0_.L Rl)):=HCX.out.range
   have hz:Hid _:=J2 hRst b0_
   generalize hcs0:b0_.L Rl = cs0 at *
   go_upto_region 10 with fail
   rw [<- hX1,<- hpw]
   clear hX1 hpw hb1 Cw hcs0
   go_wp2_with (refine wpList_load_mid rfl 39 _ rfl b9 0 rfl _ _ HRG.out underlying39 rfl hz.out ?_)
   refine JA HCap.out ?_
   rintro e V8 ⟨rfl,A⟩
   have hA:=A.out
   have hy9:Hid _:=Jaa hRst (Jcd b0_)
   have hz9:Hid _:=J2 hRst (Jcd b0_)
   have h19:Hid _:=hRst.each (Jcd b0_)
   have hl9:Hid _:=hRst.all (Jcd b0_)
   generalize hcs9:(Jcd b0_).L Rl = cs at *
   have HCS:Hid _:=hcs9
   clear hcs9
   obtain ⟨X9,hX9⟩:∃ X,X = (V8.alloc (.cells #[J Y 0,J Y 0,J Y 0,J Y 0,J Y 0,J Y 0,J Y 0,J Y 0,J Y 0,J Y 0,J Y 0,J Y 0,J Y 0,J Y 0,J Y 0,J Y 0,J Y 0,J Y 0,J Y 0,J Y 0,J Y 0,J Y 0,J Y 0,.slice none 0 0,J Y 0,J Y 0,J Y 0,.bool false,J Y 0,.bool false,.bool false] 39)).setCells V8.heap.size 0 cs:=⟨_,rfl⟩
   obtain ⟨NX9,BX9,SX9,TX9⟩:=Jc1 V8 cs hl9.out
   rw [<- hX9] at NX9 BX9 SX9
   have HT9:Hid (World.there _ _ _ _):=TX9
   obtain ⟨p9,hp9⟩:∃ p,p = V8.heap.size:=⟨_,rfl⟩
   rw [<- hp9] at NX9
   have HW9:Hid (Below V5.heap.size V5 X9):=Jf (hA.below _ _ HWX.out hpwV HWX.out.size) BX9
   have HB9:Hid (Below w0.heap.size w0 X9):=Jf (hA.below _ _ HB0.out hpw0 HB0.out.size) BX9
   have CR9:CW X9 rb [J Y 0,J Y 0,J Y 0,J Y 0,J Y 0,J Y 0,J Y 0,J Y 0,J Y 0,J Y 0,J Y 0,J Y 0,J Y 0,J Y 0,J Y 0,J Y 0,J Y 0,J Y 0,J Y 0,J Y 0,J Y 0,J Y 0,J Y 0,.slice none 0 0,J Y 0,J Y 0,J Y 0,.bool false,J Y 0,.bool false,.bool false]:=(CRX.out.after hA nr).step BX9
   have HRG9:Hid (World.rangeAt X9 p9 0 cs):=NX9.range
   have HTH:Hid (World.there X9 rb 0 cs.toArray.size):=by show World.there _ _ _ _;rw [<- HCS.out];exact CR9.there31 rfl hRst
   have HX3:Hid (World.rangeAt (X9.setCells rb 0 cs) rb 0 cs):=(CR9.sets (by rw [hl9.out];rfl)).range
   have HOW:Hid _:=Jbu ((HRW.out.step HW9.out).row) (Jly ((HRW.out.step HW9.out).row) HRB.out.2) cs 0
   clear CR9 NX9 TX9 SX9 BX9 A hA HCX CRX HWX HB0 HRG hz HCap nb nr hpwV hpw0 hRst
   go_upto_region 11 with (refine wpList_store_mid rfl 39 _ _ rfl V8.heap.size 0 _ rfl rfl HT9.out hy9.out h19.out ?_)
   rw [<- hX9,<- hp9]
   clear hX9 hp9 HT9
   go_wp2_with (first | refine wpList_load_mid rfl 39 _ rfl p9 0 rfl _ _ HRG9.out underlying39 rfl hz9.out ?_ | refine wpList_store_mid rfl 39 _ _ rfl rb 0 _ rfl rfl HTH.out hy9.out h19.out ?_)
   refine bodyPost_ret (Jbm 2 39 results8 ⟨rb,0,none⟩ rfl (run_loadVar_mid _ rb 0 39 cs _ HX3.out underlying39 rfl hz9.out)) rfl ?_
   refine ⟨b0_,⟨s,gr,ma,fn,fa,0,false,false⟩,.slice uo s.pts.length uc,by rw [HRL.out,HCS.out],⟨Jk2 (Nat.le_trans HRB.out.1 (Nat.le_of_lt HRB.out.2)) HOW.out,HB9.out.trans (Jbl HRB.out.1 _ _ _)⟩,?_⟩
   obtain ⟨j1,j2,j3,j4,j5,j6,j7,j8⟩:=HJ.out
   obtain ⟨i1,i2,i3⟩:=HIN.out
   rw [<- HBE.out]
   have z9:(-1099511627776:Int) <= 0/\(0:Int) <= 1099511627776:=by decide
   have z8:(-68719476736:Int) <= 0/\(0:Int) <= 68719476736:=by decide
   exact ⟨rfl,o1,o2,j1,(by rw [i1,i2,i3]),⟨j3,j4,j5⟩,⟨j6,j7,j8⟩,(fun e=>by cases e),HGD.out,rfl,rfl,rfl,rfl,rfl,rfl,j2.1,j2.2⟩
  | true =>
   obtain ⟨g0,gf0⟩:=HC5.out 0 _ rfl
   obtain ⟨g8,gf8⟩:=HC5.out 8 _ rfl
   obtain ⟨g9,gf9⟩:=HC5.out 9 _ rfl
   obtain ⟨g10,gf10⟩:=HC5.out 10 _ rfl
   obtain ⟨g11,gf11⟩:=HC5.out 11 _ rfl
   obtain ⟨g12,gf12⟩:=HC5.out 12 _ rfl
   obtain ⟨g13,gf13⟩:=HC5.out 13 _ rfl
   obtain ⟨X,hX⟩:∃ V,V = (((((((wc.setCell ⟨b9,0,none⟩ (J Y 1)).setCell ⟨b9,8,none⟩ (J Y 0)).setCell ⟨b9,9,none⟩ (J Y 0)).setCell ⟨b9,10,none⟩ (J Y 0)).setCell ⟨b9,11,none⟩ (J Y 0)).setCell ⟨b9,12,none⟩ (J Y 0)).setCell ⟨b9,13,none⟩ (J Y 0)):=⟨_,rfl⟩
   obtain ⟨b0_,hbe⟩:∃ b,(⟨1,⟨t.x,t.y,t.z⟩,⟨q.w,q.x,q.y,q.z⟩,⟨0,0,0⟩,⟨0,0,0⟩,m,⟨ix,iy,iz⟩⟩:Bd) = b:=⟨_,rfl⟩
   have hnb:b9 ≠ rb:=by have:=HGE.out;have h2:=HRB.out.2;have h3:=HVV.out;omega
   have hw0:w0.heap.size <= b9:=by have:=HGE.out;have h2:=HRB.out;have h3:=HVV.out;omega
   have hcx:=(((((((HC5.out.set 0 (J Y 1) (by simp)).set 8 (J Y 0) (by simp)).set 9 (J Y 0) (by simp)).set 10 (J Y 0) (by simp)).set 11 (J Y 0) (by simp)).set 12 (J Y 0) (by simp)).set 13 (J Y 0) (by simp))
   have HCX:Hid (CW X b9 ((⟨1,⟨t.x,t.y,t.z⟩,⟨q.w,q.x,q.y,q.z⟩,⟨0,0,0⟩,⟨0,0,0⟩,m,⟨ix,iy,iz⟩⟩:Bd).L (Rs.l ⟨s,gr,ma,fn,fa,0,false,false⟩ (.slice uo s.pts.length uc)))):=by show CW _ _ _;rw [hX];exact hcx
   rw [hbe] at HCX
   have HBE:Hid _:=hbe
   have CRX:Hid (CW X rb [J Y 0,J Y 0,J Y 0,J Y 0,J Y 0,J Y 0,J Y 0,J Y 0,J Y 0,J Y 0,J Y 0,J Y 0,J Y 0,J Y 0,J Y 0,J Y 0,J Y 0,J Y 0,J Y 0,J Y 0,J Y 0,J Y 0,J Y 0,.slice none 0 0,J Y 0,J Y 0,J Y 0,.bool false,J Y 0,.bool false,.bool false]):=by show CW _ _ _;rw [hX];exact (((((((CR.out.other (a:=⟨b9,0,none⟩) hnb _).other (a:=⟨b9,8,none⟩) hnb _).other (a:=⟨b9,9,none⟩) hnb _).other (a:=⟨b9,10,none⟩) hnb _).other (a:=⟨b9,11,none⟩) hnb _).other (a:=⟨b9,12,none⟩) hnb _).other (a:=⟨b9,13,none⟩) hnb _)
   have HWX:Hid (Below V5.heap.size V5 X):=by show Below _ _ _;rw [hX];exact (((((((HB5.out.setCell HGE.out _).setCell HGE.out _).setCell HGE.out _).setCell HGE.out _).setCell HGE.out _).setCell HGE.out _).setCell HGE.out _)
   have HB0:Hid (Below w0.heap.size w0 X):=by show Below _ _ _;rw [hX];exact (((((((HB.out.setCell hw0 _).setCell hw0 _).setCell hw0 _).setCell hw0 _).setCell hw0 _).setCell hw0 _).setCell hw0 _)
   clear hbe HC5 CR HB5 HB CT hnb hw0 hcx
   go_upto_region 9 with fail
   rw [<- hX]
   clear hX f21 g0 gf0 g8 gf8 g9 gf9 g10 gf10 g11 gf11 g12 gf12 g13 gf13
   have e64:(2:Nat) ^ 64 = 18446744073709551616:=by decide
   have hsp:Sml 64 b0_.p:=by rw [<- HBE.out];unfold Sml;rw [e64];dsimp only;have:=HJ.out;omega
   have hsl:Sml 64 b0_.l:=by rw [<- HBE.out];unfold Sml;rw [e64];dsimp only;have:=HJ.out;omega
   clear e64
   have hRst:Rest (Rs.l ⟨s,gr,ma,fn,fa,0,false,false⟩ (.slice uo s.pts.length uc)):=(Rs.rest _ rfl).rest
   obtain ⟨Rl,hRl⟩:∃ x,(Rs.l ⟨s,gr,ma,fn,fa,0,false,false⟩ (.slice uo s.pts.length uc)) = x:=⟨_,rfl⟩
   rw [hRl] at HCX hRst
   have HRL:Hid _:=hRl
   clear hRl
   obtain ⟨X1,hX1⟩:∃ V,V = X.alloc (.cells #[.bool false] 53):=⟨_,rfl⟩
   obtain ⟨pw,hpw⟩:∃ b,b = X.heap.size:=⟨_,rfl⟩
   have hb1:Below X.heap.size X X1:=by rw [hX1];exact Jb _ _
   have Cw:CW X1 pw [.bool false]:=by rw [hX1,hpw];exact CW.new X [.bool false] 53
   have nb:b9 ≠ pw:=by have:=CW.lt HCX.out;omega
   have nr:rb ≠ pw:=by have:=CW.lt CRX.out;omega
   have hpwV:V5.heap.size <= pw:=by have:=HWX.out.size;omega
   have hpw0:w0.heap.size <= pw:=by have:=HB0.out.size;omega
   have HCX:Hid (CW X1 b9 (b0_.L Rl)):=HCX.out.step hb1
   have CRX:Hid (CW X1 rb [J Y 0,J Y 0,J Y 0,J Y 0,J Y 0,J Y 0,J Y 0,J Y 0,J Y 0,J Y 0,J Y 0,J Y 0,J Y 0,J Y 0,J Y 0,J Y 0,J Y 0,J Y 0,J Y 0,J Y 0,J Y 0,J Y 0,J Y 0,.slice none 0 0,J Y 0,J Y 0,J Y 0,.bool false,J Y 0,.bool false,.bool false]):=CRX.out.step hb1
   have HWX:Hid (Below V5.heap.size V5 X1):=Jf HWX.out hb1
   have HB0:Hid (Below w0.heap.size w0 X1):=Jf HB0.out hb1
   have HCap:Hid _:=Jj7 pw 0 false b0_ Rl hRst hsp hsl X1 (Cw 0 _ rfl).1 (Cw 0 _ rfl).2
   have HRG:Hid (World.rangeAt X1 b9 0 (b0_.L Rl)):=HCX.out.range
   have hz:Hid _:=J2 hRst b0_
   generalize hcs0:b0_.L Rl = cs0 at *
   go_upto_region 10 with fail
   rw [<- hX1,<- hpw]
   clear hX1 hpw hb1 Cw hcs0
   go_wp2_with (refine wpList_load_mid rfl 39 _ rfl b9 0 rfl _ _ HRG.out underlying39 rfl hz.out ?_)
   refine JA HCap.out ?_
   rintro e V8 ⟨rfl,A⟩
   have hA:=A.out
   have hy9:Hid _:=Jaa hRst (Jcd b0_)
   have hz9:Hid _:=J2 hRst (Jcd b0_)
   have h19:Hid _:=hRst.each (Jcd b0_)
   have hl9:Hid _:=hRst.all (Jcd b0_)
   generalize hcs9:(Jcd b0_).L Rl = cs at *
   have HCS:Hid _:=hcs9
   clear hcs9
   obtain ⟨X9,hX9⟩:∃ X,X = (V8.alloc (.cells #[J Y 0,J Y 0,J Y 0,J Y 0,J Y 0,J Y 0,J Y 0,J Y 0,J Y 0,J Y 0,J Y 0,J Y 0,J Y 0,J Y 0,J Y 0,J Y 0,J Y 0,J Y 0,J Y 0,J Y 0,J Y 0,J Y 0,J Y 0,.slice none 0 0,J Y 0,J Y 0,J Y 0,.bool false,J Y 0,.bool false,.bool false] 39)).setCells V8.heap.size 0 cs:=⟨_,rfl⟩
   obtain ⟨NX9,BX9,SX9,TX9⟩:=Jc1 V8 cs hl9.out
   rw [<- hX9] at NX9 BX9 SX9
   have HT9:Hid (World.there _ _ _ _):=TX9
   obtain ⟨p9,hp9⟩:∃ p,p = V8.heap.size:=⟨_,rfl⟩
   rw [<- hp9] at NX9
   have HW9:Hid (Below V5.heap.size V5 X9):=Jf (hA.below _ _ HWX.out hpwV HWX.out.size) BX9
   have HB9:Hid (Below w0.heap.size w0 X9):=Jf (hA.below _ _ HB0.out hpw0 HB0.out.size) BX9
   have CR9:CW X9 rb [J Y 0,J Y 0,J Y 0,J Y 0,J Y 0,J Y 0,J Y 0,J Y 0,J Y 0,J Y 0,J Y 0,J Y 0,J Y 0,J Y 0,J Y 0,J Y 0,J Y 0,J Y 0,J Y 0,J Y 0,J Y 0,J Y 0,J Y 0,.slice none 0 0,J Y 0,J Y 0,J Y 0,.bool false,J Y 0,.bool false,.bool false]:=(CRX.out.after hA nr).step BX9
   have HRG9:Hid (World.rangeAt X9 p9 0 cs):=NX9.range
   have HTH:Hid (World.there X9 rb 0 cs.toArray.size):=by show World.there _ _ _ _;rw [<- HCS.out];exact CR9.there31 rfl hRst
   have HX3:Hid (World.rangeAt (X9.setCells rb 0 cs) rb 0 cs):=(CR9.sets (by rw [hl9.out];rfl)).range
   have HOW:Hid _:=Jbu ((HRW.out.step HW9.out).row) (Jly ((HRW.out.step HW9.out).row) HRB.out.2) cs 0
   clear CR9 NX9 TX9 SX9 BX9 A hA HCX CRX HWX HB0 HRG hz HCap nb nr hpwV hpw0 hRst
   go_upto_region 11 with (refine wpList_store_mid rfl 39 _ _ rfl V8.heap.size 0 _ rfl rfl HT9.out hy9.out h19.out ?_)
   rw [<- hX9,<- hp9]
   clear hX9 hp9 HT9
   go_wp2_with (first | refine wpList_load_mid rfl 39 _ rfl p9 0 rfl _ _ HRG9.out underlying39 rfl hz9.out ?_ | refine wpList_store_mid rfl 39 _ _ rfl rb 0 _ rfl rfl HTH.out hy9.out h19.out ?_)
   refine bodyPost_ret (Jbm 2 39 results8 ⟨rb,0,none⟩ rfl (run_loadVar_mid _ rb 0 39 cs _ HX3.out underlying39 rfl hz9.out)) rfl ?_
   refine ⟨b0_,⟨s,gr,ma,fn,fa,0,false,false⟩,.slice uo s.pts.length uc,by rw [HRL.out,HCS.out],⟨Jk2 (Nat.le_trans HRB.out.1 (Nat.le_of_lt HRB.out.2)) HOW.out,HB9.out.trans (Jbl HRB.out.1 _ _ _)⟩,?_⟩
   obtain ⟨j1,j2,j3,j4,j5,j6,j7,j8⟩:=HJ.out
   obtain ⟨i1,i2,i3⟩:=HIN.out
   rw [<- HBE.out]
   have z9:(-1099511627776:Int) <= 0/\(0:Int) <= 1099511627776:=by decide
   have z8:(-68719476736:Int) <= 0/\(0:Int) <= 68719476736:=by decide
   exact ⟨rfl,o1,o2,j1,(by rw [i1,i2,i3]),⟨z9,z9,z9⟩,⟨z8,z8,z8⟩,(fun _=>⟨rfl,rfl⟩),HGD.out,rfl,rfl,rfl,rfl,rfl,rfl,j2.1,j2.2⟩
end
section
open Fx
def isV (a:V3) (C:Int):Prop:=(-C <= a.x/\a.x <= C)/\(-C <= a.y/\a.y <= C)/\(-C <= a.z/\a.z <= C)
theorem Jbw {a:V3} {C D:Int} (h:isV a C) (hd:C <= D):isV a D:=by unfold isV at *;omega
theorem Jsz {a:V3} {C:Int} (h:isV a C):isV (hlf a) C:=by
 unfold isV hlf at *
 have key:∀ x:Int,-C <= x/\x <= C->-C <= x.tdiv 2/\x.tdiv 2 <= C:=fun x hx=>by
  by_cases h0:0 <= x
  ·rw [Int.tdiv_eq_ediv_of_nonneg h0];omega
  ·have e:x.tdiv 2 = -((-x) / 2):=by
    have:=Int.neg_tdiv (a:=x) (b:=2)
    rw [<- Int.tdiv_eq_ediv_of_nonneg (by omega),this,Int.neg_neg]
   rw [e];omega
 exact ⟨key _ h.1,key _ h.2.1,key _ h.2.2⟩
theorem Jjc {slow bad:V3->Bool} {C:Int}:∀ (n:Nat) (p:V3),isV p C->isV (hvd slow bad n p).1 C
 | 0,p,h=>h
 | n + 1,p,h=>by
  unfold hvd
  split
  ·exact h
  ·exact Jjc n _ (Jsz h)
theorem Jtl {b:Bd} {C D:Int} (hp:isV b.p C) (hl:isV b.l D):isV (Jcd b).p C/\isV (Jcd b).l D:=by
 unfold Jcd
 split
 ·exact ⟨Jjc _ _ hp,Jjc _ _ hl⟩
 ·exact ⟨hp,hl⟩
theorem Jp9 (b:Bd):(Jcd b).k = b.k/\(Jcd b).s = b.s/\(Jcd b).q = b.q/\(Jcd b).m = b.m/\(Jcd b).i = b.i:=by
 unfold Jcd
 split <;> exact ⟨rfl,rfl,rfl,rfl,rfl⟩
theorem Jmi {x y:Int} (hx:-1152921504606846976 <= x/\x <= 1152921504606846976) (hy:-1152921504606846976 <= y/\y <= 1152921504606846976):add x y = some (x + y):=by
 unfold add told great
 rw [if_neg (by simp;omega),if_neg (by simp;omega)]
theorem Jn3 {a b:V3} (ha:isV a 1152921504606846976) (hb:isV b 1152921504606846976):Jef a b = false/\Jap a b = ⟨a.x + b.x,a.y + b.y,a.z + b.z⟩:=by
 unfold Jef Jap
 rw [Jmi ha.1 hb.1,Jmi ha.2.1 hb.2.1,Jmi ha.2.2 hb.2.2]
 exact ⟨rfl,rfl⟩
theorem Juc {X C:Int} (h:-(C * 4294967296) <= X/\X <= C * 4294967296):-C <= X / 4294967296/\X / 4294967296 <= C:=by omega
theorem Je3 {a b A B:Int} (ha:-A <= a/\a <= A) (hb:-B <= b/\b <= B):-(A * B) <= a * b/\a * b <= A * B:=by
 have h1:=Int.mul_nonneg (a:=A - a) (b:=B - b) (by omega) (by omega)
 have h2:=Int.mul_nonneg (a:=A - a) (b:=B + b) (by omega) (by omega)
 have h3:=Int.mul_nonneg (a:=A + a) (b:=B - b) (by omega) (by omega)
 have h4:=Int.mul_nonneg (a:=A + a) (b:=B + b) (by omega) (by omega)
 simp only [Int.sub_mul,Int.mul_sub,Int.add_mul,Int.mul_add] at h1 h2 h3 h4
 omega
theorem Jen {x y u v A B C:Int} (hx:-A <= x/\x <= A) (hy:-A <= y/\y <= A) (hu:-B <= u/\u <= B) (hv:-B <= v/\v <= B) (hA:A <= 4611686018427387903) (hB:B <= 4611686018427387903) (h:A * B + A * B <= C * 4294967296) (hC:C <= 4611686018427387903) :
  dot [x,y] [u,v] = some ((x * u + y * v) / 4294967296)/\(-C <= (x * u + y * v) / 4294967296/\(x * u + y * v) / 4294967296 <= C):=by
 have h1:=Je3 hx hu
 have h2:=Je3 hy hv
 have hf:-C <= (x * u + y * v) / 4294967296/\(x * u + y * v) / 4294967296 <= C:=Juc (by omega)
 refine ⟨?_,hf⟩
 have hp:Jad [x,y] [u,v] = x * u + y * v:=by simp [Jad]
 unfold dot told
 rw [hp,if_neg (by simp),if_neg (by simp),if_neg (by simp [great];omega),if_neg (by simp [great];omega)]
theorem Jr9 {a b:V3} {A B C:Int} (ha:isV a A) (hb:isV b B) (hA:A <= 4611686018427387903) (hB:B <= 4611686018427387903) (h:A * B + A * B <= C * 4294967296) (hC:C <= 4611686018427387903):Jl2 a b = false/\isV (Jbv a b) C:=by
 obtain ⟨a1,a2,a3⟩:=ha
 obtain ⟨b1,b2,b3_⟩:=hb
 obtain ⟨e1,c1⟩:=Jen (u:=b.z) (v:=-b.y) a2 a3 b3_ (by omega) hA hB h hC
 obtain ⟨e2,c2⟩:=Jen (u:=b.x) (v:=-b.z) a3 a1 b1 (by omega) hA hB h hC
 obtain ⟨e3,c3⟩:=Jen (u:=b.y) (v:=-b.x) a1 a2 b2 (by omega) hA hB h hC
 unfold Jl2 Jbv
 rw [e1,e2,e3]
 exact ⟨rfl,c1,c2,c3⟩
end
section
open Go.RowKit Go.Shelf
theorem Jmz {w:World} {a b:Nat} {e:TypeId} {sz m:Nat} {v:Value} {xs:List Value} (hab:a <= b) (h:w.ownsRow b e sz v m xs):w.ownsRow a e sz v m xs:=by
 obtain ⟨h1,h2⟩:=h
 refine ⟨h1,?_⟩
 rcases h2 with h2 | ⟨g,cap,cur,e,hb,r⟩
 ·exact Or.inl h2
 ·exact Or.inr ⟨g,cap,cur,e,Nat.le_trans hab hb,r⟩
def Juh (V:World) (pts:List Pt) (R:List Value) (D:Bd) (v bx:Value) (lb:Bool) (w:World):Prop:=
 ∃ u,v = .agg (D.L (R.set 5 u)).toArray/\w.ownsRow V.heap.size 23 3 u pts.length (fl3 pts)/\(lb = true->∀ b,bx = .pointer (some ⟨b,0,none⟩)->u.ownBlock ≠ some b)
structure OG (V:World) (pb:Nat) (pts:List Pt) (R:List Value) (Ds:List (Nat × Bd)) (ib st:Nat) (fin:Bd) (γ:Nat->Value) (L:Nat->Bool) (w:World):Prop where
 leaves:Leaves ⟨pb,0,none⟩ V w
 cell:w.cell? ⟨pb,0,none⟩ = some (.bool false)
 frozen:w.frozen? ⟨pb,0,none⟩ = false
 hp:pb < V.heap.size
 told:∀ x ∈ Ds,L x.1 = true->Juh V pts R x.2 (γ x.1) (γ ib) (L ib) w
 box:L ib = true->∃ b cs,γ ib = .pointer (some ⟨b,0,none⟩)/\V.heap.size <= b/\CW w b cs/\cs.length = 31/\(L st = true->∃ u,cs = fin.L (R.set 5 u)/\w.ownsRow V.heap.size 23 3 u pts.length (fl3 pts))
section
variable {V w w':World} {pb:Nat} {pts:List Pt} {R:List Value} {Ds:List (Nat × Bd)} {ib st:Nat} {fin:Bd} {γ:Nat->Value} {L:Nat->Bool}
theorem CW.lt31 {W:World} {b:Nat} {cs:List Value} (h:CW W b cs) (hl:cs.length = 31):b < W.heap.size:=by
 cases cs with
 | nil=>simp at hl
 | cons v vs=>exact CW.lt h
end
end
section
open Go.RowKit Go.Shelf Fx
theorem Jhy {s:Sh} (h:Good s):s.pts.length <= 100000:=by
 by_cases k3:s.kind <= 3
 ·rw [h.none k3];decide
 ·have k4:s.kind = 4:=by have:=h.k;omega
  have hf:Jbj s = true:=by
   cases hf:Jbj s with
   | true=>rfl
   | false=>have:=h.ok;unfold Jaj at this;rw [hf] at this;simp at this
  have hm:Jcp s.pts = true:=by
   unfold Jbj at hf
   rw [if_neg (by omega),if_neg (by omega),if_neg (by omega),if_pos k4] at hf
   simp only [Bool.and_eq_true] at hf
   exact hf.2
  unfold Jcp at hm
  simp only [Bool.and_eq_true,decide_eq_true_eq] at hm
  omega
theorem CW.pose {W:World} {b:Nat} {D:Bd} {R:List Value} (h:CW W b (D.L R)):World.rangeAt W b 1 [J Y D.s.x,J Y D.s.y,J Y D.s.z,J Y D.q.w,J Y D.q.x,J Y D.q.y,J Y D.q.z]:=fun j v e=>by
 rw [Nat.add_comm]
 refine (h (j + 1) v ?_).1
 match j,e with
 | 0,e=>exact e
 | 1,e=>exact e
 | 2,e=>exact e
 | 3,e=>exact e
 | 4,e=>exact e
 | 5,e=>exact e
 | 6,e=>exact e
 | n + 7,e=>simp at e
section
variable {V w w':World} {pb:Nat} {pts:List Pt} {R:List Value} {Ds:List (Nat × Bd)} {ib st:Nat} {fin:Bd} {γ:Nat->Value} {L:Nat->Bool}
variable {pv:Value} (hR:RestP R pv) (hlen:pts.length <= 100000) (h:OG V pb pts R Ds ib st fin γ L w) {k:Nat} {D D':Bd} {u:Value} (hu1:u.oneCell' = true) (hL:Lies w u pts)
 (hD:∀ x ∈ Ds,x.1 = k->x.2 = D') (h1:ib ≠ k) (h2:st ≠ k) (hst:L st = false)
include hR hlen h hu1 hL hD h1 h2 hst
end
end
section
open Fx
def Mt.Fit (m:Mt):Prop:=isV m.a 8589934592/\isV m.b 8589934592/\isV m.c 8589934592
theorem Jmb {x n A N C:Int} (hx:-A <= x/\x <= A) (hn:N <= n/\n <= 4611686018427387903) (hN:0 < N) (hA:A <= 4611686018427387903) (h0:0 <= C) (h:A * 4294967296 <= C * N) (hC:C <= 4611686018427387903) :
  Jby x n = false/\(-C <= dv1 x n/\dv1 x n <= C):=by
 have hCn:C * N <= C * n:=Int.mul_le_mul_of_nonneg_left hn.1 h0
 have b1:x * 4294967296 / n <= C:=by
  have:=Int.ediv_le_ediv (by omega:0 < n) (by omega:x * 4294967296 <= C * n)
  rwa [Int.mul_ediv_cancel _ (by omega)] at this
 have b2:-C <= x * 4294967296 / n:=by
  have:=Int.ediv_le_ediv (by omega:0 < n) (by rw [Int.neg_mul];omega:-C * n <= x * 4294967296)
  rwa [Int.mul_ediv_cancel _ (by omega)] at this
 have g1:great x = false:=(not_great x).2 (by omega)
 have g2:great n = false:=(not_great n).2 (by omega)
 have g3:great (x * 4294967296 / n) = false:=(not_great _).2 (by omega)
 have e:Ju x 4294967296 n = some (x * 4294967296 / n):=by
  unfold Ju fl told
  rw [if_neg (show ¬ n = 0 by omega),g1,g2,if_neg (by simp [great])]
  simp only [if_neg (show ¬ n < 0 by omega),g3]
  rfl
 unfold Jby dv1
 rw [e]
 exact ⟨rfl,b2,b1⟩
theorem Jgi {a i:V3} {A N C:Int} (ha:isV a A) (hi:(N <= i.x/\i.x <= 4611686018427387903)/\(N <= i.y/\i.y <= 4611686018427387903)/\(N <= i.z/\i.z <= 4611686018427387903)) (hN:0 < N) (hA:A <= 4611686018427387903) (h0:0 <= C) (h:A * 4294967296 <= C * N) (hC:C <= 4611686018427387903):Jgs a i = false/\isV (Jk1 a i) C:=by
 obtain ⟨e1,b1⟩:=Jmb ha.1 hi.1 hN hA h0 h hC
 obtain ⟨e2,b2⟩:=Jmb ha.2.1 hi.2.1 hN hA h0 h hC
 obtain ⟨e3,b3_⟩:=Jmb ha.2.2 hi.2.2 hN hA h0 h hC
 unfold Jgs Jk1
 rw [e1,e2,e3]
 exact ⟨rfl,b1,b2,b3_⟩
def Jtz (i:V3):Prop:=(4096 <= i.x/\i.x <= 4611686018427387903)/\(4096 <= i.y/\i.y <= 4611686018427387903)/\(4096 <= i.z/\i.z <= 4611686018427387903)
theorem Jtb {b:Bd} {p:V3} (hm:16777216 <= b.m/\b.m <= 1099511627776) (hp:isV p 1099511627776):Jed (b.wp p) = false/\isV (Jbz (b.wp p)) 281474976710656:=
 Jgi (N:=16777216) hp ⟨⟨hm.1,Int.le_trans hm.2 (by decide)⟩,⟨hm.1,Int.le_trans hm.2 (by decide)⟩,⟨hm.1,Int.le_trans hm.2 (by decide)⟩⟩ (by decide) (by decide) (by decide) (by decide) (by decide)
theorem Jov {s:Sh} (h:Jaj s = 0):(0 <= (Jbd (Jch s) s.radius).x/\(Jbd (Jch s) s.radius).x <= 137438953472)/\(0 <= (Jbd (Jch s) s.radius).y/\(Jbd (Jch s) s.radius).y <= 137438953472)/\(0 <= (Jbd (Jch s) s.radius).z/\(Jbd (Jch s) s.radius).z <= 137438953472):=by
 obtain ⟨_,hr,p1,p2,p3⟩:=Jhc h
 obtain ⟨a,b,c1,c2,c3⟩:=Jgj (Jch s) 65536 p3 p1 _ (Nat.le_refl _)
 obtain ⟨a1,a2,a3⟩:=(Pt.inB_iff _ _).1 a
 obtain ⟨b1,b2,b3_⟩:=(Pt.inB_iff _ _).1 b
 have e1:=Jid a1.1 b1.2 c1 hr.1 hr.2
 have e2:=Jid a2.1 b2.2 c2 hr.1 hr.2
 have e3:=Jid a3.1 b3_.2 c3 hr.1 hr.2
 unfold Jbd
 dsimp only
 omega
theorem Jex {a:Int} (h:a <= 4611686018427387903):4096 <= Jbr a 4096/\Jbr a 4096 <= 4611686018427387903:=by
 unfold Jbr
 split <;> omega
theorem Jms {m a b:Int} (m0:0 <= m) (m1:m <= 1099511627776) (ha:0 <= a/\a <= 137438953472) (hb:0 <= b/\b <= 137438953472):Jjp m a b <= 4611686018427387903:=by
 have h1:=Jel m0 m1 ha.1 ha.2
 have h2:=Jel m0 m1 hb.1 hb.2
 unfold Jjp
 omega
theorem Jqs {s:Sh} {m:Int} (h:Jaj s = 0) (m0:0 <= m) (m1:m <= 1099511627776):Jtz ⟨Jbr (Jfk s m).x 4096,Jbr (Jfk s m).y 4096,Jbr (Jfk s m).z 4096⟩:=by
 obtain ⟨_,hr,_⟩:=Jhc h
 obtain ⟨w1,w2,w3⟩:=Jov h
 unfold Jfk
 split
 ·have h1:=Jel (h:=s.radius * 1048576) m0 m1 (by omega) (by omega)
  have:Jgp m (s.radius * 1048576) <= 4611686018427387903:=by unfold Jgp;omega
  exact ⟨Jex this,Jex this,Jex this⟩
 ·exact ⟨Jex (Jms m0 m1 w2 w3),Jex (Jms m0 m1 w3 w1),Jex (Jms m0 m1 w1 w2)⟩
theorem Ok12.big {fx fa:Bool} {gr ma:Int} {b:Bd} {r:Rs} (h:Ok12 fx fa gr ma b r):Jtz b.i:=by
 rw [h.i];exact Jqs h.good.ok (by have:=h.m;omega) h.m.2
end
section
open Go.RowKit Go.Shelf Fx
structure FX (x:Bd):Prop where
 m:16777216 <= x.m/\x.m <= 1099511627776
 p:isV x.p 1099511627776
 l:isV x.l 68719476736
 i:Jtz x.i
structure FJ (x:Bd) (i:Nat) (c:Bd):Prop where
 k:c.k = x.k
 p:c.p = x.p
 l:c.l = x.l
 m:c.m = x.m
 ii:c.i = x.i
 mv:x.k = 2->WM.Whole c.q.w c.q.x c.q.y c.q.z/\isV c.s (4398046511104 * ((i:Int) + 1))
 st:x.k ≠ 2->c = x
theorem Jno {x y:Int} (hx:-1152921504606846976 <= x/\x <= 1152921504606846976) (hy:-1152921504606846976 <= y/\y <= 1152921504606846976):sub x y = some (x - y):=by
 unfold sub told great
 rw [if_neg (by simp;omega),if_neg (by simp;omega)]
theorem Jn2 {a b:V3} (ha:isV a 1152921504606846976) (hb:isV b 1152921504606846976):Jsv a b = false/\Jig a b = ⟨a.x - b.x,a.y - b.y,a.z - b.z⟩:=by
 unfold Jsv Jig
 rw [Jno ha.1 hb.1,Jno ha.2.1 hb.2.1,Jno ha.2.2 hb.2.2]
 exact ⟨rfl,rfl⟩
theorem Ok12.free {fx fa:Bool} {gr ma:Int} {b x:Bd} {r:Rs} (h:Ok12 fx fa gr ma b r) (hx:Jcd b = x):FX x/\FJ x 0 x/\(x.k = if fx then 1 else 2)/\(x.k = 2->Jed x = false)/\(fx = true->if2 x.k (Jbz x) = ⟨0,0,0⟩):=by
 obtain ⟨i1,i2⟩:=Jtl (b:=b) h.p h.l
 obtain ⟨s1,s2,s3,s4,s5⟩:=Jp9 b
 rw [hx] at i1 i2 s1 s2 s3 s4 s5
 have hm:16777216 <= x.m/\x.m <= 1099511627776:=by rw [s4];exact h.m
 have hk:x.k = if fx then 1 else 2:=s1.trans h.k
 refine ⟨⟨hm,i1,i2,by rw [s5];exact h.big⟩,⟨rfl,rfl,rfl,rfl,rfl,fun _=>⟨by rw [s3];exact h.wh,?_⟩,fun _=>rfl⟩,hk,fun _=>?_,fun hf=>?_⟩
 ·have:=(Pt.inB_iff _ _).1 h.at_
  rw [s2]
  unfold isV
  dsimp only at this
  omega
 ·have:=(Jtb (b:=x) (p:=x.p) hm i1).1
  exact this
 ·unfold if2;rw [hk,hf];rfl
section
variable {w0 W W':World} {tb xb pw vb cb:Nat} {tl xl vl:List Value} {rs:Rs} {u:Value} {c:Bd} {uc:Value}
end
end
end Go.Proofs.YteebbpioffdncaaGreat
