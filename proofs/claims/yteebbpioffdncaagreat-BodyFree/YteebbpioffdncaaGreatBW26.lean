/- Layer 12's raw bodies: Right, of every raw body. -/
import Derived.Test.YteebbpioffdncaaGreatBW17
import Derived.Test.YteebbpioffdncaaGreatBW22
import Derived.Test.YteebbpioffdncaaGreatBW19
import Derived.Test.YteebbpioffdncaaGreatBW25
import Derived.Deep.CutRange
import Derived.Test.YteebbpioffdncaaGreatBW24
import Derived.Test.YteebbpioffdncaaGreatBW15
set_option maxHeartbeats 16000000
set_option maxRecDepth 100000
set_option linter.unusedVariables false
namespace Go.Proofs.YteebbpioffdncaaGreat
open Go.Value renaming int -> J
open Go.IntKind renaming i64 -> Jk
section
open Go.RowKit Go.Shelf Fx
theorem Jml {w:World} {a b:Nat} {e:TypeId} {sz m:Nat} {v:Value} {xs:List Value} (hab:a <= b) (h:w.ownsRow b e sz v m xs):w.ownsRow a e sz v m xs:=by
 obtain ⟨h1,h2⟩:=h
 refine ⟨h1,?_⟩
 rcases h2 with h2 | ⟨g,cap,cur,e,hb,r⟩
 ·exact Or.inl h2
 ·exact Or.inr ⟨g,cap,cur,e,Nat.le_trans hab hb,r⟩
structure Ok12 (fx fa:Bool) (gr ma:Int) (b:Bd) (r:Rs):Prop where
 k:b.k = if fx then 1 else 2
 at_:Pt.inB ⟨b.s.x,b.s.y,b.s.z⟩ 4398046511104 = true
 wh:WM.Whole b.q.w b.q.x b.q.y b.q.z
 m:16777216 <= b.m/\b.m <= 1099511627776
 i:b.i = ⟨Jbs (Je8 r.sh b.m).x 4096,Jbs (Je8 r.sh b.m).y 4096,Jbs (Je8 r.sh b.m).z 4096⟩
 p:(-1099511627776 <= b.p.x/\b.p.x <= 1099511627776)/\(-1099511627776 <= b.p.y/\b.p.y <= 1099511627776)/\(-1099511627776 <= b.p.z/\b.p.z <= 1099511627776)
 l:(-68719476736 <= b.l.x/\b.l.x <= 68719476736)/\(-68719476736 <= b.l.y/\b.l.y <= 68719476736)/\(-68719476736 <= b.l.z/\b.l.z <= 68719476736)
 fx:fx = true->b.p = ⟨0,0,0⟩/\b.l = ⟨0,0,0⟩
 good:Good r.sh
 rest:r.g = gr/\r.ma = ma/\r.fa = fa/\r.qu = 0/\r.al = false/\r.ou = false/\0 <= r.fr/\r.fr <= 4294967296
theorem Jfs (k r hx hy hz:Int) (o:Option Addr) (Ls:List Pt) (c:Nat) (at0 at1 at2 qa qb_ qc qd ms fr p0 p1 p2 l0 l1 l2:Int) (fx fa:Bool) (gr ma:Int) (w0:World)
  (hb:∀ v ∈ ([k,r,hx,hy,hz,at0,at1,at2,qa,qb_,qc,qd,ms,fr,p0,p1,p2,l0,l1,l2,gr,ma]:List Int),-9223372036854775808 <= v/\v <= 9223372036854775807) (hL:Lies w0 (.slice o Ls.length c) Ls) (hF:∀ p ∈ Ls,p.fits) :
  Calls Tryz.prog 8 #[.agg #[J Jk k,J Jk r,J Jk hx,J Jk hy,J Jk hz,.slice o Ls.length c,J Jk at0,J Jk at1,J Jk at2,J Jk qa,J Jk qb_,J Jk qc,J Jk qd,J Jk ms,J Jk fr,J Jk p0,J Jk p1,J Jk p2,J Jk l0,J Jk l1,J Jk l2,.bool fx,.bool fa,J Jk gr,J Jk ma]] w0 fun e W=>∃ (b:Bd) (r:Rs) (u:Value),e = .returned (.agg ((Ja1 b).L (r.l u)).toArray)/\Row w0 W u r.sh.pts/\Ok12 fx fa gr ma b r:=by
 have HR5:Hid _:=fun (w':World) (h:Below w0.heap.size w0 w')=>Jqp k r hx hy hz _ Ls w' (hb k (by simp)) (hb r (by simp)) (hb hx (by simp)) (hb hy (by simp)) (hb hz (by simp)) (hL.below h) hF
 have HPM:Hid _:=fun w'=>Je9 ms 1099494850561 w' (hb ms (by simp)) (by decide) (by decide)
 have HFR:Hid _:=fun w'=>Jhf (Je9 fr 4294967297 w' (hb fr (by simp)) (by decide) (by decide))
 have HR6:Hid _:=fun w'=>Jol at0 at1 at2 qa qb_ qc qd w' (hb at0 (by simp)) (hb at1 (by simp)) (hb at2 (by simp)) (hb qa (by simp)) (hb qb_ (by simp)) (hb qc (by simp)) (hb qd (by simp))
 have HVP:Hid _:=fun w'=>Jcp p0 p1 p2 1099511627776 w' (hb p0 (by simp)) (hb p1 (by simp)) (hb p2 (by simp)) (by decide)
 have HVL:Hid _:=fun w'=>Jcp l0 l1 l2 68719476736 w' (hb l0 (by simp)) (hb l1 (by simp)) (hb l2 (by simp)) (by decide)
 have ja0:=Jag p0 (m:=1099511627776) (by decide)
 have jb0:=Jag l0 (m:=68719476736) (by decide)
 generalize J3 p0 1099511627776 = a0 at *
 generalize J3 l0 68719476736 = b0 at *
 have ja1:=Jag p1 (m:=1099511627776) (by decide)
 have jb1:=Jag l1 (m:=68719476736) (by decide)
 generalize J3 p1 1099511627776 = a1 at *
 generalize J3 l1 68719476736 = b1 at *
 have ja2:=Jag p2 (m:=1099511627776) (by decide)
 have jb2:=Jag l2 (m:=68719476736) (by decide)
 generalize J3 p2 1099511627776 = a2 at *
 generalize J3 l2 68719476736 = b2 at *
 have jm0:=Jb3 ms (n:=1099494850561) (by decide)
 have jm1:=Jb5 ms (n:=1099494850561) (by decide)
 have jf0:=Jb3 fr (n:=4294967297) (by decide)
 have jf1:=Jb5 fr (n:=4294967297) (by decide)
 generalize Jbr ms 1099494850561 = mp at *
 generalize Jbr fr 4294967297 = fn at *
 obtain ⟨m,hm⟩:∃ x,16777216 + mp = x:=⟨_,rfl⟩
 have w_m:IntKind.i64.wrap (16777216 + mp) = m:=by rw [hm,IntKind.wrap_i64];omega
 have HJ:Hid ((16777216 <= m/\m <= 1099511627776)/\(0 <= fn/\fn <= 4294967296)/\(-1099511627776 <= a0/\a0 <= 1099511627776)/\(-1099511627776 <= a1/\a1 <= 1099511627776)/\(-1099511627776 <= a2/\a2 <= 1099511627776)/\(-68719476736 <= b0/\b0 <= 68719476736)/\(-68719476736 <= b1/\b1 <= 68719476736)/\(-68719476736 <= b2/\b2 <= 68719476736)):=by show _/\_;omega
 clear hb hL hF hm jm0 jm1 jf0 jf1 ja0 jb0 ja1 jb1 ja2 jb2
 obtain ⟨V0,hV0⟩:∃ V,V = w0.alloc (.cells #[J Jk k,J Jk r,J Jk hx,J Jk hy,J Jk hz,.slice o Ls.length c,J Jk at0,J Jk at1,J Jk at2,J Jk qa,J Jk qb_,J Jk qc,J Jk qd,J Jk ms,J Jk fr,J Jk p0,J Jk p1,J Jk p2,J Jk l0,J Jk l1,J Jk l2,.bool fx,.bool fa,J Jk gr,J Jk ma] 33):=⟨_,rfl⟩
 obtain ⟨V1,hV1⟩:∃ V,V = V0.alloc (.cells #[J Jk 0,J Jk 0,J Jk 0,J Jk 0,J Jk 0,J Jk 0,J Jk 0,J Jk 0,J Jk 0,J Jk 0,J Jk 0,J Jk 0,J Jk 0,J Jk 0,J Jk 0,J Jk 0,J Jk 0,J Jk 0,J Jk 0,J Jk 0,J Jk 0,J Jk 0,J Jk 0,.slice none 0 0,J Jk 0,J Jk 0,J Jk 0,.bool false,J Jk 0,.bool false,.bool false] 39):=⟨_,rfl⟩
 obtain ⟨tb,htb⟩:∃ b,b = w0.heap.size:=⟨_,rfl⟩
 obtain ⟨rb,hrb⟩:∃ b,b = w0.heap.size + 1:=⟨_,rfl⟩
 have z0:V0.heap.size = w0.heap.size + 1:=by rw [hV0,World.size_alloc]
 have k0:=Jb w0 (.cells #[J Jk k,J Jk r,J Jk hx,J Jk hy,J Jk hz,.slice o Ls.length c,J Jk at0,J Jk at1,J Jk at2,J Jk qa,J Jk qb_,J Jk qc,J Jk qd,J Jk ms,J Jk fr,J Jk p0,J Jk p1,J Jk p2,J Jk l0,J Jk l1,J Jk l2,.bool fx,.bool fa,J Jk gr,J Jk ma] 33)
 have k1:=Jb V0 (.cells #[J Jk 0,J Jk 0,J Jk 0,J Jk 0,J Jk 0,J Jk 0,J Jk 0,J Jk 0,J Jk 0,J Jk 0,J Jk 0,J Jk 0,J Jk 0,J Jk 0,J Jk 0,J Jk 0,J Jk 0,J Jk 0,J Jk 0,J Jk 0,J Jk 0,J Jk 0,J Jk 0,.slice none 0 0,J Jk 0,J Jk 0,J Jk 0,.bool false,J Jk 0,.bool false,.bool false] 39)
 rw [<- hV0] at k0
 rw [<- hV1] at k1
 have n0:=CW.new w0 [J Jk k,J Jk r,J Jk hx,J Jk hy,J Jk hz,.slice o Ls.length c,J Jk at0,J Jk at1,J Jk at2,J Jk qa,J Jk qb_,J Jk qc,J Jk qd,J Jk ms,J Jk fr,J Jk p0,J Jk p1,J Jk p2,J Jk l0,J Jk l1,J Jk l2,.bool fx,.bool fa,J Jk gr,J Jk ma] 33
 have n1:=CW.new V0 [J Jk 0,J Jk 0,J Jk 0,J Jk 0,J Jk 0,J Jk 0,J Jk 0,J Jk 0,J Jk 0,J Jk 0,J Jk 0,J Jk 0,J Jk 0,J Jk 0,J Jk 0,J Jk 0,J Jk 0,J Jk 0,J Jk 0,J Jk 0,J Jk 0,J Jk 0,J Jk 0,.slice none 0 0,J Jk 0,J Jk 0,J Jk 0,.bool false,J Jk 0,.bool false,.bool false] 39
 rw [<- hV0,<- htb] at n0
 rw [<- hV1,z0,<- hrb] at n1
 have CT:Hid (CW V1 tb [J Jk k,J Jk r,J Jk hx,J Jk hy,J Jk hz,.slice o Ls.length c,J Jk at0,J Jk at1,J Jk at2,J Jk qa,J Jk qb_,J Jk qc,J Jk qd,J Jk ms,J Jk fr,J Jk p0,J Jk p1,J Jk p2,J Jk l0,J Jk l1,J Jk l2,.bool fx,.bool fa,J Jk gr,J Jk ma]):=n0.step k1
 have CR:Hid (CW V1 rb [J Jk 0,J Jk 0,J Jk 0,J Jk 0,J Jk 0,J Jk 0,J Jk 0,J Jk 0,J Jk 0,J Jk 0,J Jk 0,J Jk 0,J Jk 0,J Jk 0,J Jk 0,J Jk 0,J Jk 0,J Jk 0,J Jk 0,J Jk 0,J Jk 0,J Jk 0,J Jk 0,.slice none 0 0,J Jk 0,J Jk 0,J Jk 0,.bool false,J Jk 0,.bool false,.bool false]):=n1
 have HB:Hid (Below w0.heap.size w0 V1):=Jd k0 k1
 have HRB:Hid (w0.heap.size <= rb/\rb < V1.heap.size):=by have:=CW.lt n1;show _/\_;omega
 clear n0 n1 k0 k1
 have c0:=(CT.out 0 _ rfl).1
 have c1:=(CT.out 1 _ rfl).1
 have c2:=(CT.out 2 _ rfl).1
 have c3:=(CT.out 3 _ rfl).1
 have c4:=(CT.out 4 _ rfl).1
 have c5:=(CT.out 5 _ rfl).1
 go_enter Tryz.func8,Tryz.ntmps8
 go_upto_region 1 with fail
 rw [<- hV0,<- hV1,<- hrb,<- htb]
 clear hV0 hV1 htb hrb z0
 go_wp2_with (fail)
 refine Calls.mono (HR5.out _ HB.out) ?_
 rintro e V2 ⟨s,u,rfl,hrow,hgood,_⟩
 obtain ⟨uo,uc,rfl,_⟩:=hrow.lies.form
 have hb2:=hrow.below
 have CT:Hid (CW _ _ _):=CT.out.step hb2
 have CR:Hid (CW _ _ _):=CR.out.step hb2
 have HB:Hid (Below w0.heap.size w0 V2):=Jd HB.out hb2
 clear hb2 c0 c1 c2 c3 c4 c5 HR5
 obtain ⟨V3,hV3⟩:∃ V,V = V2.alloc (.cells #[J Jk s.kind,J Jk s.radius,J Jk s.half.x,J Jk s.half.y,J Jk s.half.z,.slice uo s.pts.length uc] 37):=⟨_,rfl⟩
 obtain ⟨sb,hsb⟩:∃ b,b = V2.heap.size:=⟨_,rfl⟩
 have hb3:Below V2.heap.size V2 V3:=by rw [hV3];exact Jb _ _
 have CS:Hid (CW V3 sb [J Jk s.kind,J Jk s.radius,J Jk s.half.x,J Jk s.half.y,J Jk s.half.z,.slice uo s.pts.length uc]):=by show CW _ _ _;rw [hV3,hsb];exact CW.new _ [J Jk s.kind,J Jk s.radius,J Jk s.half.x,J Jk s.half.y,J Jk s.half.z,.slice uo s.pts.length uc] _
 have CT:Hid (CW _ _ _):=CT.out.step hb3
 have CR:Hid (CW _ _ _):=CR.out.step hb3
 have HB:Hid (Below w0.heap.size w0 V3):=Jd HB.out hb3
 have HRW:Hid (Row V1 V3 (.slice uo s.pts.length uc) s.pts):=hrow.step hb3
 have HGD:Hid (Good s):=hgood
 unfold Sh.v
 clear hrow hgood
 go_upto_region 2 with fail
 rw [<- hV3,<- hsb]
 clear hV3 hsb hb3
 have c13:=(CT.out 13 _ rfl).1
 go_wp2_with (fail)
 refine Calls.mono (HPM.out _) ?_
 rintro e V4 ⟨rfl,h4⟩
 obtain rfl:V3 = V4:=h4.symm
 clear HPM c13
 have s0_:=(CS.out 0 _ rfl).1
 have s1_:=(CS.out 1 _ rfl).1
 have s2_:=(CS.out 2 _ rfl).1
 have s3_:=(CS.out 3 _ rfl).1
 have s4_:=(CS.out 4 _ rfl).1
 have s5_:=(CS.out 5 _ rfl).1
 have HMS:Hid _:=Jtb s (.slice uo s.pts.length uc) m V3 HRW.out.lies (HGD.out.ok) HJ.out.1.1 HJ.out.1.2
 unfold Sh.v at HMS
 obtain ⟨ix,hix⟩:∃ x,Jbs (Je8 s m).x 4096 = x:=⟨_,rfl⟩
 obtain ⟨iy,hiy⟩:∃ x,Jbs (Je8 s m).y 4096 = x:=⟨_,rfl⟩
 obtain ⟨iz,hiz⟩:∃ x,Jbs (Je8 s m).z 4096 = x:=⟨_,rfl⟩
 rw [hix,hiy,hiz] at HMS
 have HIN:Hid _:=And.intro hix (And.intro hiy hiz)
 clear hix hiy hiz
 go_upto_region 3 with fail
 try simp only [w_m]
 clear w_m
 go_wp2_with (fail)
 refine Calls.mono HMS.out ?_
 rintro e V4 ⟨rfl,hb4⟩
 obtain ⟨V5,hV5⟩:∃ V,V = V4.alloc (.cells #[J Jk m,J Jk ix,J Jk iy,J Jk iz] 36):=⟨_,rfl⟩
 obtain ⟨mb,hmb⟩:∃ b,b = V4.heap.size:=⟨_,rfl⟩
 have hb5:Below V4.heap.size V4 V5:=by rw [hV5];exact Jb _ _
 have CM:Hid (CW V5 mb [J Jk m,J Jk ix,J Jk iy,J Jk iz]):=by show CW _ _ _;rw [hV5,hmb];exact CW.new _ [J Jk m,J Jk ix,J Jk iy,J Jk iz] _
 have hb45:=Jd hb4 hb5
 have CT:Hid (CW _ _ _):=CT.out.step hb45
 have CR:Hid (CW _ _ _):=CR.out.step hb45
 have HB:Hid (Below w0.heap.size w0 V5):=Jd HB.out hb45
 have CS:Hid (CW _ _ _):=CS.out.step hb45
 have HRW:Hid (Row V1 V5 (.slice uo s.pts.length uc) s.pts):=HRW.out.step hb45
 clear hb4 hb45 HMS s0_ s1_ s2_ s3_ s4_ s5_
 go_upto_region 4 with fail
 rw [<- hV5,<- hmb]
 clear hV5 hmb hb5
 have c0:=(CT.out 0 _ rfl).1
 have c1:=(CT.out 1 _ rfl).1
 have c2:=(CT.out 2 _ rfl).1
 have c3:=(CT.out 3 _ rfl).1
 have c4:=(CT.out 4 _ rfl).1
 have c5:=(CT.out 5 _ rfl).1
 have c6:=(CT.out 6 _ rfl).1
 have c7:=(CT.out 7 _ rfl).1
 have c8:=(CT.out 8 _ rfl).1
 have c9:=(CT.out 9 _ rfl).1
 have c10:=(CT.out 10 _ rfl).1
 have c11:=(CT.out 11 _ rfl).1
 have c12:=(CT.out 12 _ rfl).1
 have c13:=(CT.out 13 _ rfl).1
 have c14:=(CT.out 14 _ rfl).1
 have c15:=(CT.out 15 _ rfl).1
 have c16:=(CT.out 16 _ rfl).1
 have c17:=(CT.out 17 _ rfl).1
 have c18:=(CT.out 18 _ rfl).1
 have c19:=(CT.out 19 _ rfl).1
 have c20:=(CT.out 20 _ rfl).1
 have c21:=(CT.out 21 _ rfl).1
 have c22:=(CT.out 22 _ rfl).1
 have c23:=(CT.out 23 _ rfl).1
 have c24:=(CT.out 24 _ rfl).1
 have s0_:=(CS.out 0 _ rfl).1
 have s1_:=(CS.out 1 _ rfl).1
 have s2_:=(CS.out 2 _ rfl).1
 have s3_:=(CS.out 3 _ rfl).1
 have s4_:=(CS.out 4 _ rfl).1
 have s5_:=(CS.out 5 _ rfl).1
 have m0:=(CM.out 0 _ rfl).1
 have m1:=(CM.out 1 _ rfl).1
 have m2:=(CM.out 2 _ rfl).1
 have m3:=(CM.out 3 _ rfl).1
 have HOC:Hid (∀ (t:Pt) (q:Q4),([J Jk 2,J Jk t.x,J Jk t.y,J Jk t.z,J Jk q.w,J Jk q.x,J Jk q.y,J Jk q.z,J Jk a0,J Jk a1,J Jk a2,J Jk b0,J Jk b1,J Jk b2,J Jk m,J Jk ix,J Jk iy,J Jk iz,J Jk s.kind,J Jk s.radius,J Jk s.half.x,J Jk s.half.y,J Jk s.half.z,.slice uo s.pts.length uc,J Jk gr,J Jk ma,J Jk fn,.bool fa,J Jk 0,.bool false,.bool false]:List Value).toArray.all (·.oneCell') = true):=fun t q=>(Rs.rest ⟨s,gr,ma,fn,fa,0,false,false⟩ (pv:=.slice uo s.pts.length uc) rfl).rest.each ⟨2,⟨t.x,t.y,t.z⟩,⟨q.w,q.x,q.y,q.z⟩,⟨a0,a1,a2⟩,⟨b0,b1,b2⟩,m,⟨ix,iy,iz⟩⟩
 have HVV:Hid (V1.heap.size <= V5.heap.size):=HRW.out.below.size
 go_cut [1,2,7] from 0 to 44 (fun s1 s2 s7 wx=>s1 = .pointer (some ⟨tb,0,none⟩)/\s2 = .pointer (some ⟨rb,0,none⟩)/\∃ (b9:Nat) (t:Pt) (q:Q4),s7 = .pointer (some ⟨b9,0,none⟩)/\Hid (CW wx b9 [J Jk 2,J Jk t.x,J Jk t.y,J Jk t.z,J Jk q.w,J Jk q.x,J Jk q.y,J Jk q.z,J Jk a0,J Jk a1,J Jk a2,J Jk b0,J Jk b1,J Jk b2,J Jk m,J Jk ix,J Jk iy,J Jk iz,J Jk s.kind,J Jk s.radius,J Jk s.half.x,J Jk s.half.y,J Jk s.half.z,.slice uo s.pts.length uc,J Jk gr,J Jk ma,J Jk fn,.bool fa,J Jk 0,.bool false,.bool false])/\Hid (V5.heap.size <= b9)/\Hid (Below V5.heap.size V5 wx)/\t.inB 4398046511104 = true/\WM.Whole q.w q.x q.y q.z)
 case first =>
  refine RV.rs [.some (.pointer (some ⟨tb,6,none⟩)),.some (.agg #[J Jk at0,J Jk at1,J Jk at2,J Jk qa,J Jk qb_,J Jk qc,J Jk qd]),none,.some (.pointer (some ⟨tb,15,none⟩)),.some (.agg #[J Jk p0,J Jk p1,J Jk p2]),.some (.agg #[J Jk a0,J Jk a1,J Jk a2]),.some (.pointer (some ⟨tb,18,none⟩)),.some (.agg #[J Jk l0,J Jk l1,J Jk l2]),.some (.agg #[J Jk b0,J Jk b1,J Jk b2]),.some (.agg #[J Jk m,J Jk ix,J Jk iy,J Jk iz]),.some (.agg #[J Jk s.kind,J Jk s.radius,J Jk s.half.x,J Jk s.half.y,J Jk s.half.z,.slice uo s.pts.length uc]),.some (.pointer (some ⟨tb,23,none⟩)),.some (J Jk gr),.some (.pointer (some ⟨tb,24,none⟩)),.some (J Jk ma),.some (.pointer (some ⟨tb,14,none⟩)),.some (J Jk fr),.some (J Jk fn),.some (.pointer (some ⟨tb,22,none⟩)),.some (.bool fa),none,none,none] [25,26,27,28,29,30,31,32,33,34,35,36,37,38,39,40,41,42,43,44,45,8,0] [(1,.pointer (some ⟨tb,0,none⟩)),(5,.pointer (some ⟨mb,0,none⟩)),(3,.pointer (some ⟨sb,0,none⟩))] (fun γ L w=>RG V5 (fun (t:Pt) (q:Q4)=>t.inB 4398046511104 = true/\WM.Whole q.w q.x q.y q.z) (fun t q=>[J Jk 2,J Jk t.x,J Jk t.y,J Jk t.z,J Jk q.w,J Jk q.x,J Jk q.y,J Jk q.z,J Jk a0,J Jk a1,J Jk a2,J Jk b0,J Jk b1,J Jk b2,J Jk m,J Jk ix,J Jk iy,J Jk iz,J Jk s.kind,J Jk s.radius,J Jk s.half.x,J Jk s.half.y,J Jk s.half.z,.slice uo s.pts.length uc,J Jk gr,J Jk ma,J Jk fn,.bool fa,J Jk 0,.bool false,.bool false]) γ L w) ⟨rfl,rfl,rfl,trivial⟩ (RG.start (Below.refl _ V5).drew rfl) ?_ ?_
  ·intro D WA Z hD hWA hZ T
   simp only [RV.Outs,RV.Slots,Nat.reduceAdd] at T
   (refine RV.cc _ (RV.pu T (fun γ v L w hl h=>h.other _ (by decide) (by decide) (by decide) (by decide)) (fun γ L a w hH hl h9 k9=>⟨_,?_,rfl⟩)) ?_;· simp [execOp,go_sem,h9])
   (refine RV.cc _ (RV.pu T (fun γ v L w hl h=>h.other _ (by decide) (by decide) (by decide) (by decide)) (fun γ L a w hH hl h9 k9=>⟨_,?_,rfl⟩)) ?_;· have dc6:=Ja hH.glob.1 c6;have dc7:=Ja hH.glob.1 c7;have dc8:=Ja hH.glob.1 c8;have dc9:=Ja hH.glob.1 c9;have dc10:=Ja hH.glob.1 c10;have dc11:=Ja hH.glob.1 c11;have dc12:=Ja hH.glob.1 c12;simp [Region.binds] at k9;simp [execOp,go_sem,h9,k9,dc6,dc7,dc8,dc9,dc10,dc11,dc12])
   refine RV.cc _ (RV.dc (fun γ L a w hH hl hA=>by have h9:=T γ L a w hH;have k9:=hA;simp [Region.binds] at k9;exact ⟨_,_,by simp [go_sem,h9,k9],Calls.mono (HR6.out w) (by rintro e w2 ⟨t9,q9,rfl,o1,o2,hb⟩;exact ⟨_,rfl,trivial,fun j v _ h=>h.keep _,hH.glob.got ⟨o1,o2⟩ hb⟩)⟩)) ?_
   (refine RV.cc _ (RV.pu T (fun γ v L w hl h=>h.other _ (by decide) (by decide) (by decide) (by decide)) (fun γ L a w hH hl h9 k9=>⟨_,?_,rfl⟩)) ?_;· simp [execOp,go_sem,h9])
   (refine RV.cc _ (RV.pu T (fun γ v L w hl h=>h.other _ (by decide) (by decide) (by decide) (by decide)) (fun γ L a w hH hl h9 k9=>⟨_,?_,rfl⟩)) ?_;· have dc15:=Ja hH.glob.1 c15;have dc16:=Ja hH.glob.1 c16;have dc17:=Ja hH.glob.1 c17;simp [Region.binds] at k9;simp [execOp,go_sem,h9,k9,dc15,dc16,dc17])
   refine RV.cc _ (RV.dc (fun γ L a w hH hl hA=>by have h9:=T γ L a w hH;have k9:=hA;simp [Region.binds] at k9;exact ⟨_,_,by simp [go_sem,h9,k9],Calls.mono (HVP.out w) (by rintro e w2 ⟨rfl,hb⟩;exact ⟨_,rfl,rfl,fun j v _ h=>h.keep _,(hH.glob.below hb).other _ (by decide) (by decide) (by decide) (by decide)⟩)⟩)) ?_
   (refine RV.cc _ (RV.pu T (fun γ v L w hl h=>h.other _ (by decide) (by decide) (by decide) (by decide)) (fun γ L a w hH hl h9 k9=>⟨_,?_,rfl⟩)) ?_;· simp [execOp,go_sem,h9])
   (refine RV.cc _ (RV.pu T (fun γ v L w hl h=>h.other _ (by decide) (by decide) (by decide) (by decide)) (fun γ L a w hH hl h9 k9=>⟨_,?_,rfl⟩)) ?_;· have dc18:=Ja hH.glob.1 c18;have dc19:=Ja hH.glob.1 c19;have dc20:=Ja hH.glob.1 c20;simp [Region.binds] at k9;simp [execOp,go_sem,h9,k9,dc18,dc19,dc20])
   refine RV.cc _ (RV.dc (fun γ L a w hH hl hA=>by have h9:=T γ L a w hH;have k9:=hA;simp [Region.binds] at k9;exact ⟨_,_,by simp [go_sem,h9,k9],Calls.mono (HVL.out w) (by rintro e w2 ⟨rfl,hb⟩;exact ⟨_,rfl,rfl,fun j v _ h=>h.keep _,(hH.glob.below hb).other _ (by decide) (by decide) (by decide) (by decide)⟩)⟩)) ?_
   (refine RV.cc _ (RV.pu T (fun γ v L w hl h=>h.other _ (by decide) (by decide) (by decide) (by decide)) (fun γ L a w hH hl h9 k9=>⟨_,?_,rfl⟩)) ?_;· have dm0:=Ja hH.glob.1 m0;have dm1:=Ja hH.glob.1 m1;have dm2:=Ja hH.glob.1 m2;have dm3:=Ja hH.glob.1 m3;simp [execOp,go_sem,h9,dm0,dm1,dm2,dm3])
   (refine RV.cc _ (RV.pu T (fun γ v L w hl h=>h.other _ (by decide) (by decide) (by decide) (by decide)) (fun γ L a w hH hl h9 k9=>⟨_,?_,rfl⟩)) ?_;· have ds0_:=Ja hH.glob.1 s0_;have ds1_:=Ja hH.glob.1 s1_;have ds2_:=Ja hH.glob.1 s2_;have ds3_:=Ja hH.glob.1 s3_;have ds4_:=Ja hH.glob.1 s4_;have ds5_:=Ja hH.glob.1 s5_;simp [execOp,go_sem,h9,ds0_,ds1_,ds2_,ds3_,ds4_,ds5_])
   (refine RV.cc _ (RV.pu T (fun γ v L w hl h=>h.other _ (by decide) (by decide) (by decide) (by decide)) (fun γ L a w hH hl h9 k9=>⟨_,?_,rfl⟩)) ?_;· simp [execOp,go_sem,h9])
   (refine RV.cc _ (RV.pu T (fun γ v L w hl h=>h.other _ (by decide) (by decide) (by decide) (by decide)) (fun γ L a w hH hl h9 k9=>⟨_,?_,rfl⟩)) ?_;· have dc23:=Ja hH.glob.1 c23;simp [Region.binds] at k9;simp [execOp,go_sem,h9,k9,dc23])
   (refine RV.cc _ (RV.pu T (fun γ v L w hl h=>h.other _ (by decide) (by decide) (by decide) (by decide)) (fun γ L a w hH hl h9 k9=>⟨_,?_,rfl⟩)) ?_;· simp [execOp,go_sem,h9])
   (refine RV.cc _ (RV.pu T (fun γ v L w hl h=>h.other _ (by decide) (by decide) (by decide) (by decide)) (fun γ L a w hH hl h9 k9=>⟨_,?_,rfl⟩)) ?_;· have dc24:=Ja hH.glob.1 c24;simp [Region.binds] at k9;simp [execOp,go_sem,h9,k9,dc24])
   (refine RV.cc _ (RV.pu T (fun γ v L w hl h=>h.other _ (by decide) (by decide) (by decide) (by decide)) (fun γ L a w hH hl h9 k9=>⟨_,?_,rfl⟩)) ?_;· simp [execOp,go_sem,h9])
   (refine RV.cc _ (RV.pu T (fun γ v L w hl h=>h.other _ (by decide) (by decide) (by decide) (by decide)) (fun γ L a w hH hl h9 k9=>⟨_,?_,rfl⟩)) ?_;· have dc14:=Ja hH.glob.1 c14;simp [Region.binds] at k9;simp [execOp,go_sem,h9,k9,dc14])
   refine RV.cc _ (RV.dc (fun γ L a w hH hl hA=>by have h9:=T γ L a w hH;have k9:=hA;simp [Region.binds] at k9;exact ⟨_,_,by simp [go_sem,h9,k9],Calls.mono (HFR.out w) (by rintro e w2 ⟨rfl,hb⟩;exact ⟨_,rfl,rfl,fun j v _ h=>h.keep _,(hH.glob.below hb).other _ (by decide) (by decide) (by decide) (by decide)⟩)⟩)) ?_
   (refine RV.cc _ (RV.pu T (fun γ v L w hl h=>h.other _ (by decide) (by decide) (by decide) (by decide)) (fun γ L a w hH hl h9 k9=>⟨_,?_,rfl⟩)) ?_;· simp [execOp,go_sem,h9])
   (refine RV.cc _ (RV.pu T (fun γ v L w hl h=>h.other _ (by decide) (by decide) (by decide) (by decide)) (fun γ L a w hH hl h9 k9=>⟨_,?_,rfl⟩)) ?_;· have dc22:=Ja hH.glob.1 c22;simp [Region.binds] at k9;simp [execOp,go_sem,h9,k9,dc22])
   refine RV.cc _ (RV.does_step (fun γ L a w hH hl hA=>by have h9:=T γ L a w hH;have k9:=hA;simp [Region.binds] at k9;have l0:L 2 = true:=hA ⟨2,.data⟩ (by simp) rfl;have e0:=hH.slot 2 26 (by rw [<- hD];rfl) l0;obtain ⟨t9,q9,o1,e1⟩:=hH.glob.2.1 l0;rw [e1] at e0;unfold Jpo at e0;exact ⟨_,w,by simp [execOp,go_sem,h9,k9,e0],trivial,fun j v _ h=>h,hH.glob.put o1⟩)) ?_
   refine RV.cc _ (RV.does_step (fun γ L a w hH hl hA=>by exact ⟨.pointer (some ⟨w.heap.size,0,none⟩),w.alloc (.cells #[J Jk 0,J Jk 0,J Jk 0,J Jk 0,J Jk 0,J Jk 0,J Jk 0,J Jk 0,J Jk 0,J Jk 0,J Jk 0,J Jk 0,J Jk 0,J Jk 0,J Jk 0,J Jk 0,J Jk 0,J Jk 0,J Jk 0,J Jk 0,J Jk 0,J Jk 0,J Jk 0,.slice none 0 0,J Jk 0,J Jk 0,J Jk 0,.bool false,J Jk 0,.bool false,.bool false] 39),by simp [execOp,go_sem],trivial,fun j v _ h=>h.keep _,hH.glob.made (RV.ny hH (RV.wt (j:=22) (i:=21) hWA (by kernel_rfl)) hl) [J Jk 0,J Jk 0,J Jk 0,J Jk 0,J Jk 0,J Jk 0,J Jk 0,J Jk 0,J Jk 0,J Jk 0,J Jk 0,J Jk 0,J Jk 0,J Jk 0,J Jk 0,J Jk 0,J Jk 0,J Jk 0,J Jk 0,J Jk 0,J Jk 0,J Jk 0,J Jk 0,.slice none 0 0,J Jk 0,J Jk 0,J Jk 0,.bool false,J Jk 0,.bool false,.bool false] rfl⟩)) ?_
   refine RV.cc _ (RV.does_store (fun γ L a w hH hl hA=>by have l0:L 21 = true:=hA ⟨21,.data⟩ (by simp) rfl;have l8:L 20 = true:=hA ⟨20,.data⟩ (by simp) rfl;have e0:=hH.slot 21 7 (by rw [<- hD];rfl) l0;have e8:=hH.slot 20 44 (by rw [<- hD];rfl) l8;obtain ⟨b9,cs,hb1,hb2,hb3,hb4,_⟩:=hH.glob.2.2.2 l0;obtain ⟨t9,q9,o1,q1⟩:=hH.glob.2.2.1 l8;rw [hb1] at e0;rw [q1] at e8;have hfl:=hH.glob.fill hb1 hb2 hb3 hb4 o1 rfl;exact ⟨_,Jb9 39 _ _ rfl b9 0 _ (by simp [Act.eval,e0]) (by simp [Act.eval,e8]) (by rw [List.size_toArray];have ht:=hb3.there;rw [hb4] at ht;exact ht) (by kernel_rfl) (HOC.out t9 q9),trivial,fun j v _ h=>h.keep _,hfl _⟩)) ?_
   exact RV.AllDo.nil
  ·intro γ w5 L9 hL hI9 hG9
   obtain ⟨b9,cs,hb1,hb2,hb3,_,hb5⟩:=hG9.2.2.2 (hL 21 (by decide))
   obtain ⟨t,q,⟨o1,o2⟩,hcs⟩:=hb5 (hL 22 (by decide))
   rw [hcs] at hb3
   have HB5:Hid (Below V5.heap.size V5 w5):=hG9.1
   simp only [RV.putL,Act.put,List.setIfInBounds_toArray,List.set_cons_zero,List.set_cons_succ,Nat.reduceAdd]
   rw [hb1]
   have HC5:Hid (CW w5 b9 [J Jk 2,J Jk t.x,J Jk t.y,J Jk t.z,J Jk q.w,J Jk q.x,J Jk q.y,J Jk q.z,J Jk a0,J Jk a1,J Jk a2,J Jk b0,J Jk b1,J Jk b2,J Jk m,J Jk ix,J Jk iy,J Jk iz,J Jk s.kind,J Jk s.radius,J Jk s.half.x,J Jk s.half.y,J Jk s.half.z,.slice uo s.pts.length uc,J Jk gr,J Jk ma,J Jk fn,.bool fa,J Jk 0,.bool false,.bool false]):=hb3
   have HGE:Hid (V5.heap.size <= b9):=hb2
   clear hG9 hI9 hL hb1 hb2 hb3 hb5 hcs
   go_wp2_with (fail)
   go_meet
   case rel=>exact ⟨rfl,rfl,b9,t,q,rfl,HC5,HGE,HB5,o1,o2⟩
 case rest =>
  obtain ⟨rfl,rfl,b9,t,q,rfl,HC5,HGE,HB5,o1,o2⟩:=hcut
  have CT:Hid (CW _ _ _):=CT.out.step HB5.out
  have CR:Hid (CW wc rb [J Jk 0,J Jk 0,J Jk 0,J Jk 0,J Jk 0,J Jk 0,J Jk 0,J Jk 0,J Jk 0,J Jk 0,J Jk 0,J Jk 0,J Jk 0,J Jk 0,J Jk 0,J Jk 0,J Jk 0,J Jk 0,J Jk 0,J Jk 0,J Jk 0,J Jk 0,J Jk 0,.slice none 0 0,J Jk 0,J Jk 0,J Jk 0,.bool false,J Jk 0,.bool false,.bool false]):=CR.out.step HB5.out
  have HB:Hid (Below w0.heap.size w0 wc):=Jd HB.out HB5.out
  clear c0 c1 c2 c3 c4 c5 c6 c7 c8 c9 c10 c11 c12 c13 c14 c15 c16 c17 c18 c19 c20 c21 c22 c23 c24 s0_ s1_ s2_ s3_ s4_ s5_ m0 m1 m2 m3 HR6 HVP HVL HFR CM CS
  have f21:=(CT.out 21 _ rfl).1
  cases fx with
  | false =>
   obtain ⟨X,hX⟩:∃ V,V = wc:=⟨_,rfl⟩
   obtain ⟨b0_,hbe⟩:∃ b,(⟨2,⟨t.x,t.y,t.z⟩,⟨q.w,q.x,q.y,q.z⟩,⟨a0,a1,a2⟩,⟨b0,b1,b2⟩,m,⟨ix,iy,iz⟩⟩:Bd) = b:=⟨_,rfl⟩
   have HCX:Hid (CW wc b9 ((⟨2,⟨t.x,t.y,t.z⟩,⟨q.w,q.x,q.y,q.z⟩,⟨a0,a1,a2⟩,⟨b0,b1,b2⟩,m,⟨ix,iy,iz⟩⟩:Bd).L (Rs.l ⟨s,gr,ma,fn,fa,0,false,false⟩ (.slice uo s.pts.length uc)))):=HC5.out
   rw [hbe] at HCX
   have HBE:Hid _:=hbe
   have CRX:=CR
   have HWX:=HB5
   have HB0:=HB
   clear hbe HC5 CR HB5 HB CT
   go_upto_region 9 with fail
   rw [<- hX] at HCX CRX HWX HB0 ⊢
   clear hX f21
   have e64:(2:Nat) ^ 64 = 18446744073709551616:=by decide
   have hsp:Sml 64 b0_.p:=by rw [<- HBE.out];unfold Sml;rw [e64];dsimp only;have:=HJ.out;omega
   have hsl:Sml 64 b0_.l:=by rw [<- HBE.out];unfold Sml;rw [e64];dsimp only;have:=HJ.out;omega
   clear e64
   have hRst:Rest (Rs.l ⟨s,gr,ma,fn,fa,0,false,false⟩ (.slice uo s.pts.length uc)):=(Rs.rest _ rfl).rest
   obtain ⟨Rl,hRl⟩:∃ x,(Rs.l ⟨s,gr,ma,fn,fa,0,false,false⟩ (.slice uo s.pts.length uc)) = x:=⟨_,rfl⟩
   rw [hRl] at HCX hRst
   have HRL:Hid _:=hRl
   clear hRl
   obtain ⟨X1,hX1⟩:∃ V,V = X.alloc (.cells #[.bool false] 53):=⟨_,rfl⟩
   obtain ⟨pw,hpw⟩:∃ b,b = X.heap.size:=⟨_,rfl⟩
   have hb1:Below X.heap.size X X1:=by rw [hX1];exact Jb _ _
   have Cw:CW X1 pw [.bool false]:=by rw [hX1,hpw];exact CW.new X [.bool false] 53
   have nb:b9 ≠ pw:=by have:=CW.lt HCX.out;omega
   have nr:rb ≠ pw:=by have:=CW.lt CRX.out;omega
   have hpwV:V5.heap.size <= pw:=by have:=HWX.out.size;omega
   have hpw0:w0.heap.size <= pw:=by have:=HB0.out.size;omega
   have HCX:Hid (CW X1 b9 (b0_.L Rl)):=HCX.out.step hb1
   have CRX:Hid (CW X1 rb [J Jk 0,J Jk 0,J Jk 0,J Jk 0,J Jk 0,J Jk 0,J Jk 0,J Jk 0,J Jk 0,J Jk 0,J Jk 0,J Jk 0,J Jk 0,J Jk 0,J Jk 0,J Jk 0,J Jk 0,J Jk 0,J Jk 0,J Jk 0,J Jk 0,J Jk 0,J Jk 0,.slice none 0 0,J Jk 0,J Jk 0,J Jk 0,.bool false,J Jk 0,.bool false,.bool false]):=CRX.out.step hb1
   have HWX:Hid (Below V5.heap.size V5 X1):=Jd HWX.out hb1
   have HB0:Hid (Below w0.heap.size w0 X1):=Jd HB0.out hb1
   have HCap:Hid _:=Jl4 pw 0 false b0_ Rl hRst hsp hsl X1 (Cw 0 _ rfl).1 (Cw 0 _ rfl).2
   have HRG:Hid (World.rangeAt X1 b9 0 (b0_.L Rl)):=HCX.out.range
   have hz:Hid _:=Jp hRst b0_
   generalize hcs0:b0_.L Rl = cs0 at *
   go_upto_region 10 with fail
   rw [<- hX1,<- hpw]
   clear hX1 hpw hb1 Cw hcs0
   go_wp2_with (refine wpList_load_mid rfl 39 _ rfl b9 0 rfl _ _ HRG.out Tryz.underlying39 rfl hz.out ?_)
   refine Calls.mono HCap.out ?_
   rintro e V8 ⟨rfl,A⟩
   have hA:=A.out
   have hy9:Hid _:=J1 hRst (Ja1 b0_)
   have hz9:Hid _:=Jp hRst (Ja1 b0_)
   have h19:Hid _:=hRst.each (Ja1 b0_)
   have hl9:Hid _:=hRst.all (Ja1 b0_)
   generalize hcs9:(Ja1 b0_).L Rl = cs at *
   have HCS:Hid _:=hcs9
   clear hcs9
   obtain ⟨X9,hX9⟩:∃ X,X = (V8.alloc (.cells #[J Jk 0,J Jk 0,J Jk 0,J Jk 0,J Jk 0,J Jk 0,J Jk 0,J Jk 0,J Jk 0,J Jk 0,J Jk 0,J Jk 0,J Jk 0,J Jk 0,J Jk 0,J Jk 0,J Jk 0,J Jk 0,J Jk 0,J Jk 0,J Jk 0,J Jk 0,J Jk 0,.slice none 0 0,J Jk 0,J Jk 0,J Jk 0,.bool false,J Jk 0,.bool false,.bool false] 39)).setCells V8.heap.size 0 cs:=⟨_,rfl⟩
   obtain ⟨NX9,BX9,SX9,TX9⟩:=Jca V8 cs hl9.out
   rw [<- hX9] at NX9 BX9 SX9
   have HT9:Hid (World.there _ _ _ _):=TX9
   obtain ⟨p9,hp9⟩:∃ p,p = V8.heap.size:=⟨_,rfl⟩
   rw [<- hp9] at NX9
   have HW9:Hid (Below V5.heap.size V5 X9):=Jd (hA.below _ _ HWX.out hpwV HWX.out.size) BX9
   have HB9:Hid (Below w0.heap.size w0 X9):=Jd (hA.below _ _ HB0.out hpw0 HB0.out.size) BX9
   have CR9:CW X9 rb [J Jk 0,J Jk 0,J Jk 0,J Jk 0,J Jk 0,J Jk 0,J Jk 0,J Jk 0,J Jk 0,J Jk 0,J Jk 0,J Jk 0,J Jk 0,J Jk 0,J Jk 0,J Jk 0,J Jk 0,J Jk 0,J Jk 0,J Jk 0,J Jk 0,J Jk 0,J Jk 0,.slice none 0 0,J Jk 0,J Jk 0,J Jk 0,.bool false,J Jk 0,.bool false,.bool false]:=(CRX.out.after hA nr).step BX9
   have HRG9:Hid (World.rangeAt X9 p9 0 cs):=NX9.range
   have HTH:Hid (World.there X9 rb 0 cs.toArray.size):=by show World.there _ _ _ _;rw [<- HCS.out];exact CR9.there31 rfl hRst
   have HX3:Hid (World.rangeAt (X9.setCells rb 0 cs) rb 0 cs):=(CR9.sets (by rw [hl9.out];rfl)).range
   have HOW:Hid _:=Jat ((HRW.out.step HW9.out).row) (Jgr ((HRW.out.step HW9.out).row) HRB.out.2) cs 0
   clear CR9 NX9 TX9 SX9 BX9 A hA HCX CRX HWX HB0 HRG hz HCap nb nr hpwV hpw0 hRst
   go_upto_region 11 with (refine wpList_store_mid rfl 39 _ _ rfl V8.heap.size 0 _ rfl rfl HT9.out hy9.out h19.out ?_)
   rw [<- hX9,<- hp9]
   clear hX9 hp9 HT9
   go_wp2_with (first | refine wpList_load_mid rfl 39 _ rfl p9 0 rfl _ _ HRG9.out Tryz.underlying39 rfl hz9.out ?_ | refine wpList_store_mid rfl 39 _ _ rfl rb 0 _ rfl rfl HTH.out hy9.out h19.out ?_)
   refine bodyPost_ret (Jaz 2 39 Tryz.results8 ⟨rb,0,none⟩ rfl (run_loadVar_mid _ rb 0 39 cs _ HX3.out Tryz.underlying39 rfl hz9.out)) rfl ?_
   refine ⟨b0_,⟨s,gr,ma,fn,fa,0,false,false⟩,.slice uo s.pts.length uc,by rw [HRL.out,HCS.out],⟨Jml (Nat.le_trans HRB.out.1 (Nat.le_of_lt HRB.out.2)) HOW.out,HB9.out.trans (Jby HRB.out.1 _ _ _)⟩,?_⟩
   obtain ⟨j1,j2,j3,j4,j5,j6,j7,j8⟩:=HJ.out
   obtain ⟨i1,i2,i3⟩:=HIN.out
   rw [<- HBE.out]
   have z9:(-1099511627776:Int) <= 0/\(0:Int) <= 1099511627776:=by decide
   have z8:(-68719476736:Int) <= 0/\(0:Int) <= 68719476736:=by decide
   exact ⟨rfl,o1,o2,j1,(by rw [i1,i2,i3]),⟨j3,j4,j5⟩,⟨j6,j7,j8⟩,(fun e=>by cases e),HGD.out,rfl,rfl,rfl,rfl,rfl,rfl,j2.1,j2.2⟩
  | true =>
   obtain ⟨g0,gf0⟩:=HC5.out 0 _ rfl
   obtain ⟨g8,gf8⟩:=HC5.out 8 _ rfl
   obtain ⟨g9,gf9⟩:=HC5.out 9 _ rfl
   obtain ⟨g10,gf10⟩:=HC5.out 10 _ rfl
   obtain ⟨g11,gf11⟩:=HC5.out 11 _ rfl
   obtain ⟨g12,gf12⟩:=HC5.out 12 _ rfl
   obtain ⟨g13,gf13⟩:=HC5.out 13 _ rfl
   obtain ⟨X,hX⟩:∃ V,V = (((((((wc.setCell ⟨b9,0,none⟩ (J Jk 1)).setCell ⟨b9,8,none⟩ (J Jk 0)).setCell ⟨b9,9,none⟩ (J Jk 0)).setCell ⟨b9,10,none⟩ (J Jk 0)).setCell ⟨b9,11,none⟩ (J Jk 0)).setCell ⟨b9,12,none⟩ (J Jk 0)).setCell ⟨b9,13,none⟩ (J Jk 0)):=⟨_,rfl⟩
   obtain ⟨b0_,hbe⟩:∃ b,(⟨1,⟨t.x,t.y,t.z⟩,⟨q.w,q.x,q.y,q.z⟩,⟨0,0,0⟩,⟨0,0,0⟩,m,⟨ix,iy,iz⟩⟩:Bd) = b:=⟨_,rfl⟩
   have hnb:b9 ≠ rb:=by have:=HGE.out;have h2:=HRB.out.2;have h3:=HVV.out;omega
   have hw0:w0.heap.size <= b9:=by have:=HGE.out;have h2:=HRB.out;have h3:=HVV.out;omega
   have hcx:=(((((((HC5.out.set 0 (J Jk 1) (by simp)).set 8 (J Jk 0) (by simp)).set 9 (J Jk 0) (by simp)).set 10 (J Jk 0) (by simp)).set 11 (J Jk 0) (by simp)).set 12 (J Jk 0) (by simp)).set 13 (J Jk 0) (by simp))
   have HCX:Hid (CW X b9 ((⟨1,⟨t.x,t.y,t.z⟩,⟨q.w,q.x,q.y,q.z⟩,⟨0,0,0⟩,⟨0,0,0⟩,m,⟨ix,iy,iz⟩⟩:Bd).L (Rs.l ⟨s,gr,ma,fn,fa,0,false,false⟩ (.slice uo s.pts.length uc)))):=by show CW _ _ _;rw [hX];exact hcx
   rw [hbe] at HCX
   have HBE:Hid _:=hbe
   have CRX:Hid (CW X rb [J Jk 0,J Jk 0,J Jk 0,J Jk 0,J Jk 0,J Jk 0,J Jk 0,J Jk 0,J Jk 0,J Jk 0,J Jk 0,J Jk 0,J Jk 0,J Jk 0,J Jk 0,J Jk 0,J Jk 0,J Jk 0,J Jk 0,J Jk 0,J Jk 0,J Jk 0,J Jk 0,.slice none 0 0,J Jk 0,J Jk 0,J Jk 0,.bool false,J Jk 0,.bool false,.bool false]):=by show CW _ _ _;rw [hX];exact (((((((CR.out.other (a:=⟨b9,0,none⟩) hnb _).other (a:=⟨b9,8,none⟩) hnb _).other (a:=⟨b9,9,none⟩) hnb _).other (a:=⟨b9,10,none⟩) hnb _).other (a:=⟨b9,11,none⟩) hnb _).other (a:=⟨b9,12,none⟩) hnb _).other (a:=⟨b9,13,none⟩) hnb _)
   have HWX:Hid (Below V5.heap.size V5 X):=by show Below _ _ _;rw [hX];exact (((((((HB5.out.setCell HGE.out _).setCell HGE.out _).setCell HGE.out _).setCell HGE.out _).setCell HGE.out _).setCell HGE.out _).setCell HGE.out _)
   have HB0:Hid (Below w0.heap.size w0 X):=by show Below _ _ _;rw [hX];exact (((((((HB.out.setCell hw0 _).setCell hw0 _).setCell hw0 _).setCell hw0 _).setCell hw0 _).setCell hw0 _).setCell hw0 _)
   clear hbe HC5 CR HB5 HB CT hnb hw0 hcx
   go_upto_region 9 with fail
   rw [<- hX]
   clear hX f21 g0 gf0 g8 gf8 g9 gf9 g10 gf10 g11 gf11 g12 gf12 g13 gf13
   have e64:(2:Nat) ^ 64 = 18446744073709551616:=by decide
   have hsp:Sml 64 b0_.p:=by rw [<- HBE.out];unfold Sml;rw [e64];dsimp only;have:=HJ.out;omega
   have hsl:Sml 64 b0_.l:=by rw [<- HBE.out];unfold Sml;rw [e64];dsimp only;have:=HJ.out;omega
   clear e64
   have hRst:Rest (Rs.l ⟨s,gr,ma,fn,fa,0,false,false⟩ (.slice uo s.pts.length uc)):=(Rs.rest _ rfl).rest
   obtain ⟨Rl,hRl⟩:∃ x,(Rs.l ⟨s,gr,ma,fn,fa,0,false,false⟩ (.slice uo s.pts.length uc)) = x:=⟨_,rfl⟩
   rw [hRl] at HCX hRst
   have HRL:Hid _:=hRl
   clear hRl
   obtain ⟨X1,hX1⟩:∃ V,V = X.alloc (.cells #[.bool false] 53):=⟨_,rfl⟩
   obtain ⟨pw,hpw⟩:∃ b,b = X.heap.size:=⟨_,rfl⟩
   have hb1:Below X.heap.size X X1:=by rw [hX1];exact Jb _ _
   have Cw:CW X1 pw [.bool false]:=by rw [hX1,hpw];exact CW.new X [.bool false] 53
   have nb:b9 ≠ pw:=by have:=CW.lt HCX.out;omega
   have nr:rb ≠ pw:=by have:=CW.lt CRX.out;omega
   have hpwV:V5.heap.size <= pw:=by have:=HWX.out.size;omega
   have hpw0:w0.heap.size <= pw:=by have:=HB0.out.size;omega
   have HCX:Hid (CW X1 b9 (b0_.L Rl)):=HCX.out.step hb1
   have CRX:Hid (CW X1 rb [J Jk 0,J Jk 0,J Jk 0,J Jk 0,J Jk 0,J Jk 0,J Jk 0,J Jk 0,J Jk 0,J Jk 0,J Jk 0,J Jk 0,J Jk 0,J Jk 0,J Jk 0,J Jk 0,J Jk 0,J Jk 0,J Jk 0,J Jk 0,J Jk 0,J Jk 0,J Jk 0,.slice none 0 0,J Jk 0,J Jk 0,J Jk 0,.bool false,J Jk 0,.bool false,.bool false]):=CRX.out.step hb1
   have HWX:Hid (Below V5.heap.size V5 X1):=Jd HWX.out hb1
   have HB0:Hid (Below w0.heap.size w0 X1):=Jd HB0.out hb1
   have HCap:Hid _:=Jl4 pw 0 false b0_ Rl hRst hsp hsl X1 (Cw 0 _ rfl).1 (Cw 0 _ rfl).2
   have HRG:Hid (World.rangeAt X1 b9 0 (b0_.L Rl)):=HCX.out.range
   have hz:Hid _:=Jp hRst b0_
   generalize hcs0:b0_.L Rl = cs0 at *
   go_upto_region 10 with fail
   rw [<- hX1,<- hpw]
   clear hX1 hpw hb1 Cw hcs0
   go_wp2_with (refine wpList_load_mid rfl 39 _ rfl b9 0 rfl _ _ HRG.out Tryz.underlying39 rfl hz.out ?_)
   refine Calls.mono HCap.out ?_
   rintro e V8 ⟨rfl,A⟩
   have hA:=A.out
   have hy9:Hid _:=J1 hRst (Ja1 b0_)
   have hz9:Hid _:=Jp hRst (Ja1 b0_)
   have h19:Hid _:=hRst.each (Ja1 b0_)
   have hl9:Hid _:=hRst.all (Ja1 b0_)
   generalize hcs9:(Ja1 b0_).L Rl = cs at *
   have HCS:Hid _:=hcs9
   clear hcs9
   obtain ⟨X9,hX9⟩:∃ X,X = (V8.alloc (.cells #[J Jk 0,J Jk 0,J Jk 0,J Jk 0,J Jk 0,J Jk 0,J Jk 0,J Jk 0,J Jk 0,J Jk 0,J Jk 0,J Jk 0,J Jk 0,J Jk 0,J Jk 0,J Jk 0,J Jk 0,J Jk 0,J Jk 0,J Jk 0,J Jk 0,J Jk 0,J Jk 0,.slice none 0 0,J Jk 0,J Jk 0,J Jk 0,.bool false,J Jk 0,.bool false,.bool false] 39)).setCells V8.heap.size 0 cs:=⟨_,rfl⟩
   obtain ⟨NX9,BX9,SX9,TX9⟩:=Jca V8 cs hl9.out
   rw [<- hX9] at NX9 BX9 SX9
   have HT9:Hid (World.there _ _ _ _):=TX9
   obtain ⟨p9,hp9⟩:∃ p,p = V8.heap.size:=⟨_,rfl⟩
   rw [<- hp9] at NX9
   have HW9:Hid (Below V5.heap.size V5 X9):=Jd (hA.below _ _ HWX.out hpwV HWX.out.size) BX9
   have HB9:Hid (Below w0.heap.size w0 X9):=Jd (hA.below _ _ HB0.out hpw0 HB0.out.size) BX9
   have CR9:CW X9 rb [J Jk 0,J Jk 0,J Jk 0,J Jk 0,J Jk 0,J Jk 0,J Jk 0,J Jk 0,J Jk 0,J Jk 0,J Jk 0,J Jk 0,J Jk 0,J Jk 0,J Jk 0,J Jk 0,J Jk 0,J Jk 0,J Jk 0,J Jk 0,J Jk 0,J Jk 0,J Jk 0,.slice none 0 0,J Jk 0,J Jk 0,J Jk 0,.bool false,J Jk 0,.bool false,.bool false]:=(CRX.out.after hA nr).step BX9
   have HRG9:Hid (World.rangeAt X9 p9 0 cs):=NX9.range
   have HTH:Hid (World.there X9 rb 0 cs.toArray.size):=by show World.there _ _ _ _;rw [<- HCS.out];exact CR9.there31 rfl hRst
   have HX3:Hid (World.rangeAt (X9.setCells rb 0 cs) rb 0 cs):=(CR9.sets (by rw [hl9.out];rfl)).range
   have HOW:Hid _:=Jat ((HRW.out.step HW9.out).row) (Jgr ((HRW.out.step HW9.out).row) HRB.out.2) cs 0
   clear CR9 NX9 TX9 SX9 BX9 A hA HCX CRX HWX HB0 HRG hz HCap nb nr hpwV hpw0 hRst
   go_upto_region 11 with (refine wpList_store_mid rfl 39 _ _ rfl V8.heap.size 0 _ rfl rfl HT9.out hy9.out h19.out ?_)
   rw [<- hX9,<- hp9]
   clear hX9 hp9 HT9
   go_wp2_with (first | refine wpList_load_mid rfl 39 _ rfl p9 0 rfl _ _ HRG9.out Tryz.underlying39 rfl hz9.out ?_ | refine wpList_store_mid rfl 39 _ _ rfl rb 0 _ rfl rfl HTH.out hy9.out h19.out ?_)
   refine bodyPost_ret (Jaz 2 39 Tryz.results8 ⟨rb,0,none⟩ rfl (run_loadVar_mid _ rb 0 39 cs _ HX3.out Tryz.underlying39 rfl hz9.out)) rfl ?_
   refine ⟨b0_,⟨s,gr,ma,fn,fa,0,false,false⟩,.slice uo s.pts.length uc,by rw [HRL.out,HCS.out],⟨Jml (Nat.le_trans HRB.out.1 (Nat.le_of_lt HRB.out.2)) HOW.out,HB9.out.trans (Jby HRB.out.1 _ _ _)⟩,?_⟩
   obtain ⟨j1,j2,j3,j4,j5,j6,j7,j8⟩:=HJ.out
   obtain ⟨i1,i2,i3⟩:=HIN.out
   rw [<- HBE.out]
   have z9:(-1099511627776:Int) <= 0/\(0:Int) <= 1099511627776:=by decide
   have z8:(-68719476736:Int) <= 0/\(0:Int) <= 68719476736:=by decide
   exact ⟨rfl,o1,o2,j1,(by rw [i1,i2,i3]),⟨z9,z9,z9⟩,⟨z8,z8,z8⟩,(fun _=>⟨rfl,rfl⟩),HGD.out,rfl,rfl,rfl,rfl,rfl,rfl,j2.1,j2.2⟩
end
section
open Fx
def isV (a:V3) (C:Int):Prop:=(-C <= a.x/\a.x <= C)/\(-C <= a.y/\a.y <= C)/\(-C <= a.z/\a.z <= C)
theorem Jpa {a:V3} {C:Int} (h:isV a C):isV (hlf a) C:=by
 unfold isV hlf at *
 have key:∀ x:Int,-C <= x/\x <= C->-C <= x.tdiv 2/\x.tdiv 2 <= C:=fun x hx=>by
  by_cases h0:0 <= x
  ·rw [Int.tdiv_eq_ediv_of_nonneg h0];omega
  ·have e:x.tdiv 2 = -((-x) / 2):=by
    have:=Int.neg_tdiv (a:=x) (b:=2)
    rw [<- Int.tdiv_eq_ediv_of_nonneg (by omega),this,Int.neg_neg]
   rw [e];omega
 exact ⟨key _ h.1,key _ h.2.1,key _ h.2.2⟩
theorem Jkv {slow bad:V3->Bool} {C:Int}:∀ (n:Nat) (p:V3),isV p C->isV (hvd slow bad n p).1 C
 | 0,p,h=>h
 | n + 1,p,h=>by
  unfold hvd
  split
  ·exact h
  ·exact Jkv n _ (Jpa h)
theorem Jld {b:Bd} {C D:Int} (hp:isV b.p C) (hl:isV b.l D):isV (Ja1 b).p C/\isV (Ja1 b).l D:=by
 unfold Ja1
 split
 ·exact ⟨Jkv _ _ hp,Jkv _ _ hl⟩
 ·exact ⟨hp,hl⟩
theorem Jg5 (b:Bd):(Ja1 b).k = b.k/\(Ja1 b).s = b.s/\(Ja1 b).q = b.q/\(Ja1 b).m = b.m/\(Ja1 b).i = b.i:=by
 unfold Ja1
 split <;> exact ⟨rfl,rfl,rfl,rfl,rfl⟩
end
section
open Go.RowKit Go.Shelf
def Jvy (V:World) (pts:List Pt) (R:List Value) (D:Bd) (v bx:Value) (lb:Bool) (w:World):Prop:=
 ∃ u,v = .agg (D.L (R.set 5 u)).toArray/\w.ownsRow V.heap.size 23 3 u pts.length (fl3 pts)/\(lb = true->∀ b,bx = .pointer (some ⟨b,0,none⟩)->u.ownBlock ≠ some b)
structure OG (V:World) (pb:Nat) (pts:List Pt) (R:List Value) (Ds:List (Nat × Bd)) (ib st:Nat) (fin:Bd) (γ:Nat->Value) (L:Nat->Bool) (w:World):Prop where
 leaves:Leaves ⟨pb,0,none⟩ V w
 cell:w.cell? ⟨pb,0,none⟩ = some (.bool false)
 frozen:w.frozen? ⟨pb,0,none⟩ = false
 hp:pb < V.heap.size
 told:∀ x ∈ Ds,L x.1 = true->Jvy V pts R x.2 (γ x.1) (γ ib) (L ib) w
 box:L ib = true->∃ b cs,γ ib = .pointer (some ⟨b,0,none⟩)/\V.heap.size <= b/\CW w b cs/\cs.length = 31/\(L st = true->∃ u,cs = fin.L (R.set 5 u)/\w.ownsRow V.heap.size 23 3 u pts.length (fl3 pts))
section
variable {V w w':World} {pb:Nat} {pts:List Pt} {R:List Value} {Ds:List (Nat × Bd)} {ib st:Nat} {fin:Bd} {γ:Nat->Value} {L:Nat->Bool}
theorem CW.lt31 {W:World} {b:Nat} {cs:List Value} (h:CW W b cs) (hl:cs.length = 31):b < W.heap.size:=by
 cases cs with
 | nil=>simp at hl
 | cons v vs=>exact CW.lt h
end
end
section
open Go.RowKit Go.Shelf Fx
theorem Jgp {s:Sh} (h:Good s):s.pts.length <= 100000:=by
 by_cases k3:s.kind <= 3
 ·rw [h.none k3];decide
 ·have k4:s.kind = 4:=by have:=h.k;omega
  have hf:Jbx s = true:=by
   cases hf:Jbx s with
   | true=>rfl
   | false=>have:=h.ok;unfold Jaq at this;rw [hf] at this;simp at this
  have hm:Jc5 s.pts = true:=by
   unfold Jbx at hf
   rw [if_neg (by omega),if_neg (by omega),if_neg (by omega),if_pos k4] at hf
   simp only [Bool.and_eq_true] at hf
   exact hf.2
  unfold Jc5 at hm
  simp only [Bool.and_eq_true,decide_eq_true_eq] at hm
  omega
section
variable {V w w':World} {pb:Nat} {pts:List Pt} {R:List Value} {Ds:List (Nat × Bd)} {ib st:Nat} {fin:Bd} {γ:Nat->Value} {L:Nat->Bool}
variable {pv:Value} (hR:RestP R pv) (hlen:pts.length <= 100000) (h:OG V pb pts R Ds ib st fin γ L w) {k:Nat} {D D':Bd} {u:Value} (hu1:u.oneCell' = true) (hL:Lies w u pts)
 (hD:∀ x ∈ Ds,x.1 = k->x.2 = D') (h1:ib ≠ k) (h2:st ≠ k) (hst:L st = false)
include hR hlen h hu1 hL hD h1 h2 hst
end
end
section
open Go.ChangeShapes Go.WideShapes Go.Deep Go.Joins
section
variable {H:Type} {enc:TypeId × Value->H} {w:World} {base:Nat} {spare:Nat->Bool} {held:Bool}
theorem Jtx {fuel:Nat} {u0 u1 u2 u3 u4 u5:Value} {z:DataW H × List MemPlace} (hf2:DataW.trod enc Tryz.prog w base spare held fuel 26 [u0,u1,u2,u3,u4,u5] = some z) :
  ∃ (k rr x y z:Int) (a:Option Addr) (L:List Pt) (cap:Nat),u0 = J Jk k/\u1 = J Jk rr/\u2 = J Jk x/\u3 = J Jk y/\u4 = J Jk z/\u5 = .slice a L.length cap/\Lies w (.slice a L.length cap) L/\(∀ p ∈ L,p.fits)/\(Lit.int .i64 k).wf = true/\(Lit.int .i64 rr).wf = true/\(Lit.int .i64 x).wf = true/\(Lit.int .i64 y).wf = true/\(Lit.int .i64 z).wf = true:=by
 obtain ⟨xs,n,_,_,_,hxl,hel⟩:=DataW.trod_struct Tryz.underlying26 hf2
 have hc1:Tryz.prog.cellsOf 3 = 1:=by kernel_rfl
 have hc3:Tryz.prog.cellsOf 23 = 3:=by kernel_rfl
 have hcs:Tryz.prog.cellsOf 24 = 1:=by kernel_rfl
 have some_of:∀ j,j < 4->∃ z,xs[j]? = some z:=fun j hj=>⟨_,List.getElem?_eq_getElem (by rw [hxl];exact hj)⟩
 obtain ⟨z0,hz0⟩:=some_of 0 (by omega)
 obtain ⟨z1,hz1⟩:=some_of 1 (by omega)
 obtain ⟨z2,hz2⟩:=some_of 2 (by omega)
 obtain ⟨z3,hz3⟩:=some_of 3 (by omega)
 have e0:=hel 0 _ rfl
 have e1:=hel 1 _ rfl
 have e2:=hel 2 _ rfl
 have e3:=hel 3 _ rfl
 rw [hz0] at e0
 rw [hz1] at e1
 rw [hz2] at e2
 rw [hz3] at e3
 have q0:DataW.trod enc Tryz.prog w base spare held n 3 [u0] = some z0:=by have this:DataW.trod enc Tryz.prog w base spare held n 3 (([u0,u1,u2,u3,u4,u5].drop 0).take (Tryz.prog.cellsOf 3)) = some z0:=e0;rw [hc1] at this;exact this
 have q1:DataW.trod enc Tryz.prog w base spare held n 3 [u1] = some z1:=by have this:DataW.trod enc Tryz.prog w base spare held n 3 (([u0,u1,u2,u3,u4,u5].drop 1).take (Tryz.prog.cellsOf 3)) = some z1:=e1;rw [hc1] at this;exact this
 have q2:DataW.trod enc Tryz.prog w base spare held n 23 [u2,u3,u4] = some z2:=by have this:DataW.trod enc Tryz.prog w base spare held n 23 (([u0,u1,u2,u3,u4,u5].drop 2).take (Tryz.prog.cellsOf 23)) = some z2:=e2;rw [hc3] at this;exact this
 have q3:DataW.trod enc Tryz.prog w base spare held n 24 [u5] = some z3:=by have this:DataW.trod enc Tryz.prog w base spare held n 24 (([u0,u1,u2,u3,u4,u5].drop 5).take (Tryz.prog.cellsOf 24)) = some z3:=e3;rw [hcs] at this;exact this
 obtain ⟨k,rfl,_,wk⟩:=Jb1 q0
 obtain ⟨rr,rfl,_,wr⟩:=Jb1 q1
 obtain ⟨ys,m,_,_,_,hyl,hey⟩:=DataW.trod_struct Tryz.underlying23 q2
 have some_y:∀ j,j < 3->∃ z,ys[j]? = some z:=fun j hj=>⟨_,List.getElem?_eq_getElem (by rw [hyl];exact hj)⟩
 obtain ⟨y0,hy0⟩:=some_y 0 (by omega)
 obtain ⟨y1,hy1⟩:=some_y 1 (by omega)
 obtain ⟨y2,hy2⟩:=some_y 2 (by omega)
 have g0:=hey 0 _ rfl
 have g1:=hey 1 _ rfl
 have g2:=hey 2 _ rfl
 rw [hy0] at g0
 rw [hy1] at g1
 rw [hy2] at g2
 have p0:DataW.trod enc Tryz.prog w base spare held m 3 [u2] = some y0:=by have this:DataW.trod enc Tryz.prog w base spare held m 3 (([u2,u3,u4].drop 0).take (Tryz.prog.cellsOf 3)) = some y0:=g0;rw [hc1] at this;exact this
 have p1:DataW.trod enc Tryz.prog w base spare held m 3 [u3] = some y1:=by have this:DataW.trod enc Tryz.prog w base spare held m 3 (([u2,u3,u4].drop 1).take (Tryz.prog.cellsOf 3)) = some y1:=g1;rw [hc1] at this;exact this
 have p2:DataW.trod enc Tryz.prog w base spare held m 3 [u4] = some y2:=by have this:DataW.trod enc Tryz.prog w base spare held m 3 (([u2,u3,u4].drop 2).take (Tryz.prog.cellsOf 3)) = some y2:=g2;rw [hc1] at this;exact this
 obtain ⟨x,rfl,_,wx⟩:=Jb1 p0
 obtain ⟨y,rfl,_,wy⟩:=Jb1 p1
 obtain ⟨z,rfl,_,wz⟩:=Jb1 p2
 have hs:∃ a len cap,u5 = .slice a len cap:=by
  rcases Deep.open_slice Tryz.underlying24 q3 with ⟨hcs,_⟩ | ⟨y,l,c,mm,nn,D,Pl,hcs,_⟩
  ·simp at hcs;exact ⟨_,_,_,hcs⟩
  ·simp at hcs;exact ⟨_,_,_,hcs⟩
 obtain ⟨a,len,cap,rfl⟩:=hs
 obtain ⟨L,rfl,hL,hF⟩:=Jqw q3
 exact ⟨k,rr,x,y,z,a,L,cap,rfl,rfl,rfl,rfl,rfl,rfl,hL,hF,wk,wr,wx,wy,wz⟩
theorem Jto {fuel:Nat} {u0 u1 u2 u3 u4 u5 u6:Value} {z:DataW H × List MemPlace} (hf2:DataW.trod enc Tryz.prog w base spare held fuel 31 [u0,u1,u2,u3,u4,u5,u6] = some z) :
  ∃ x0 x1 x2 x3 x4 x5 x6:Int,u0 = J Jk x0/\u1 = J Jk x1/\u2 = J Jk x2/\u3 = J Jk x3/\u4 = J Jk x4/\u5 = J Jk x5/\u6 = J Jk x6/\(Lit.int .i64 x0).wf = true/\(Lit.int .i64 x1).wf = true/\(Lit.int .i64 x2).wf = true/\(Lit.int .i64 x3).wf = true/\(Lit.int .i64 x4).wf = true/\(Lit.int .i64 x5).wf = true/\(Lit.int .i64 x6).wf = true:=by
 obtain ⟨xs,n,_,_,_,hxl,hel⟩:=DataW.trod_struct Tryz.underlying31 hf2
 have hc3:Tryz.prog.cellsOf 27 = 3:=by kernel_rfl
 have hc4:Tryz.prog.cellsOf 29 = 4:=by kernel_rfl
 have some_of:∀ j,j < 2->∃ z,xs[j]? = some z:=fun j hj=>⟨_,List.getElem?_eq_getElem (by rw [hxl];exact hj)⟩
 obtain ⟨z0,hz0⟩:=some_of 0 (by omega)
 obtain ⟨z1,hz1⟩:=some_of 1 (by omega)
 have e0:=hel 0 _ rfl
 have e1:=hel 1 _ rfl
 rw [hz0] at e0
 rw [hz1] at e1
 have q0:DataW.trod enc Tryz.prog w base spare held n 27 [u0,u1,u2] = some z0:=by have this:DataW.trod enc Tryz.prog w base spare held n 27 (([u0,u1,u2,u3,u4,u5,u6].drop 0).take (Tryz.prog.cellsOf 27)) = some z0:=e0;rw [hc3] at this;exact this
 have q1:DataW.trod enc Tryz.prog w base spare held n 29 [u3,u4,u5,u6] = some z1:=by have this:DataW.trod enc Tryz.prog w base spare held n 29 (([u0,u1,u2,u3,u4,u5,u6].drop 3).take (Tryz.prog.cellsOf 29)) = some z1:=e1;rw [hc4] at this;exact this
 obtain ⟨x0,x1,x2,rfl,rfl,rfl,k0,k1,k2⟩:=Jvf q0
 obtain ⟨x3,x4,x5,x6,rfl,rfl,rfl,rfl,k3,k4,k5,k6⟩:=Jul q1
 exact ⟨x0,x1,x2,x3,x4,x5,x6,rfl,rfl,rfl,rfl,rfl,rfl,rfl,k0,k1,k2,k3,k4,k5,k6⟩
end
end
section
open Go.ChangeShapes Go.WideShapes Go.Deep Go.Joins
theorem Jvo {cs:Array Value} (h:cs.size = 25):∃ u0 u1 u2 u3 u4 u5 u6 u7 u8 u9 u10 u11 u12 u13 u14 u15 u16 u17 u18 u19 u20 u21 u22 u23 u24,cs = #[u0,u1,u2,u3,u4,u5,u6,u7,u8,u9,u10,u11,u12,u13,u14,u15,u16,u17,u18,u19,u20,u21,u22,u23,u24]:=by
 obtain ⟨l⟩:=cs
 match l,h with
 | [u0,u1,u2,u3,u4,u5,u6,u7,u8,u9,u10,u11,u12,u13,u14,u15,u16,u17,u18,u19,u20,u21,u22,u23,u24],_=>exact ⟨u0,u1,u2,u3,u4,u5,u6,u7,u8,u9,u10,u11,u12,u13,u14,u15,u16,u17,u18,u19,u20,u21,u22,u23,u24,rfl⟩
section
variable {H:Type} {enc:TypeId × Value->H} {w:World} {base:Nat} {spare:Nat->Bool} {held:Bool}
theorem Jgk {rr:Reach} {b0:Nat} {v:Value} {d:DataW H} {p:List MemPlace} (hv:Value.okWide Tryz.prog w rr b0 33 v) (h:DataW.Trod enc Tryz.prog w base spare held 33 v d p) :
  ∃ (k r hx hy hz:Int) (o:Option Addr) (Ls:List Pt) (c:Nat) (at0 at1 at2 qa qb_ qc qd ms fr p0 p1 p2 l0 l1 l2:Int) (fx fa:Bool) (gr ma:Int),v = .agg #[J Jk k,J Jk r,J Jk hx,J Jk hy,J Jk hz,.slice o Ls.length c,J Jk at0,J Jk at1,J Jk at2,J Jk qa,J Jk qb_,J Jk qc,J Jk qd,J Jk ms,J Jk fr,J Jk p0,J Jk p1,J Jk p2,J Jk l0,J Jk l1,J Jk l2,.bool fx,.bool fa,J Jk gr,J Jk ma]/\Lies w (.slice o Ls.length c) Ls/\(∀ p ∈ Ls,p.fits)/\∀ v ∈ ([k,r,hx,hy,hz,at0,at1,at2,qa,qb_,qc,qd,ms,fr,p0,p1,p2,l0,l1,l2,gr,ma]:List Int),-9223372036854775808 <= v/\v <= 9223372036854775807:=by
 obtain ⟨cs,rfl,hsz⟩:=okWide_struct Tryz.underlying33 hv
 have hC:Tryz.prog.cellsOf 33 = 25:=by kernel_rfl
 obtain ⟨u0,u1,u2,u3,u4,u5,u6,u7,u8,u9,u10,u11,u12,u13,u14,u15,u16,u17,u18,u19,u20,u21,u22,u23,u24,rfl⟩:=Jvo (hsz.trans hC)
 obtain ⟨fuel,hf⟩:=h
 have hf2:DataW.trod enc Tryz.prog w base spare held fuel 33 [u0,u1,u2,u3,u4,u5,u6,u7,u8,u9,u10,u11,u12,u13,u14,u15,u16,u17,u18,u19,u20,u21,u22,u23,u24] = some (d,p):=hf
 obtain ⟨xs,n,_,_,_,hxl,hel⟩:=DataW.trod_struct Tryz.underlying33 hf2
 have some_of:∀ j,j < 10->∃ z,xs[j]? = some z:=fun j hj=>⟨_,List.getElem?_eq_getElem (by rw [hxl];exact hj)⟩
 have hc0_:Tryz.prog.cellsOf 26 = 6:=by kernel_rfl
 obtain ⟨zz0,hz0⟩:=some_of 0 (by omega)
 have e0:=hel 0 _ rfl
 rw [hz0] at e0
 have f0:DataW.trod enc Tryz.prog w base spare held n 26 [u0,u1,u2,u3,u4,u5] = some zz0:=by have this:DataW.trod enc Tryz.prog w base spare held n 26 (([u0,u1,u2,u3,u4,u5,u6,u7,u8,u9,u10,u11,u12,u13,u14,u15,u16,u17,u18,u19,u20,u21,u22,u23,u24].drop 0).take (Tryz.prog.cellsOf 26)) = some zz0:=e0;rw [hc0_] at this;exact this
 have hc1_:Tryz.prog.cellsOf 31 = 7:=by kernel_rfl
 obtain ⟨zz1,hz1⟩:=some_of 1 (by omega)
 have e1:=hel 1 _ rfl
 rw [hz1] at e1
 have f1:DataW.trod enc Tryz.prog w base spare held n 31 [u6,u7,u8,u9,u10,u11,u12] = some zz1:=by have this:DataW.trod enc Tryz.prog w base spare held n 31 (([u0,u1,u2,u3,u4,u5,u6,u7,u8,u9,u10,u11,u12,u13,u14,u15,u16,u17,u18,u19,u20,u21,u22,u23,u24].drop 6).take (Tryz.prog.cellsOf 31)) = some zz1:=e1;rw [hc1_] at this;exact this
 have hc2_:Tryz.prog.cellsOf 3 = 1:=by kernel_rfl
 obtain ⟨zz2,hz2⟩:=some_of 2 (by omega)
 have e2:=hel 2 _ rfl
 rw [hz2] at e2
 have f2:DataW.trod enc Tryz.prog w base spare held n 3 [u13] = some zz2:=by have this:DataW.trod enc Tryz.prog w base spare held n 3 (([u0,u1,u2,u3,u4,u5,u6,u7,u8,u9,u10,u11,u12,u13,u14,u15,u16,u17,u18,u19,u20,u21,u22,u23,u24].drop 13).take (Tryz.prog.cellsOf 3)) = some zz2:=e2;rw [hc2_] at this;exact this
 have hc3_:Tryz.prog.cellsOf 3 = 1:=by kernel_rfl
 obtain ⟨zz3,hz3⟩:=some_of 3 (by omega)
 have e3:=hel 3 _ rfl
 rw [hz3] at e3
 have f3:DataW.trod enc Tryz.prog w base spare held n 3 [u14] = some zz3:=by have this:DataW.trod enc Tryz.prog w base spare held n 3 (([u0,u1,u2,u3,u4,u5,u6,u7,u8,u9,u10,u11,u12,u13,u14,u15,u16,u17,u18,u19,u20,u21,u22,u23,u24].drop 14).take (Tryz.prog.cellsOf 3)) = some zz3:=e3;rw [hc3_] at this;exact this
 have hc4_:Tryz.prog.cellsOf 27 = 3:=by kernel_rfl
 obtain ⟨zz4,hz4⟩:=some_of 4 (by omega)
 have e4:=hel 4 _ rfl
 rw [hz4] at e4
 have f4:DataW.trod enc Tryz.prog w base spare held n 27 [u15,u16,u17] = some zz4:=by have this:DataW.trod enc Tryz.prog w base spare held n 27 (([u0,u1,u2,u3,u4,u5,u6,u7,u8,u9,u10,u11,u12,u13,u14,u15,u16,u17,u18,u19,u20,u21,u22,u23,u24].drop 15).take (Tryz.prog.cellsOf 27)) = some zz4:=e4;rw [hc4_] at this;exact this
 have hc5_:Tryz.prog.cellsOf 27 = 3:=by kernel_rfl
 obtain ⟨zz5,hz5⟩:=some_of 5 (by omega)
 have e5:=hel 5 _ rfl
 rw [hz5] at e5
 have f5:DataW.trod enc Tryz.prog w base spare held n 27 [u18,u19,u20] = some zz5:=by have this:DataW.trod enc Tryz.prog w base spare held n 27 (([u0,u1,u2,u3,u4,u5,u6,u7,u8,u9,u10,u11,u12,u13,u14,u15,u16,u17,u18,u19,u20,u21,u22,u23,u24].drop 18).take (Tryz.prog.cellsOf 27)) = some zz5:=e5;rw [hc5_] at this;exact this
 have hc6_:Tryz.prog.cellsOf 4 = 1:=by kernel_rfl
 obtain ⟨zz6,hz6⟩:=some_of 6 (by omega)
 have e6:=hel 6 _ rfl
 rw [hz6] at e6
 have f6:DataW.trod enc Tryz.prog w base spare held n 4 [u21] = some zz6:=by have this:DataW.trod enc Tryz.prog w base spare held n 4 (([u0,u1,u2,u3,u4,u5,u6,u7,u8,u9,u10,u11,u12,u13,u14,u15,u16,u17,u18,u19,u20,u21,u22,u23,u24].drop 21).take (Tryz.prog.cellsOf 4)) = some zz6:=e6;rw [hc6_] at this;exact this
 have hc7_:Tryz.prog.cellsOf 4 = 1:=by kernel_rfl
 obtain ⟨zz7,hz7⟩:=some_of 7 (by omega)
 have e7:=hel 7 _ rfl
 rw [hz7] at e7
 have f7:DataW.trod enc Tryz.prog w base spare held n 4 [u22] = some zz7:=by have this:DataW.trod enc Tryz.prog w base spare held n 4 (([u0,u1,u2,u3,u4,u5,u6,u7,u8,u9,u10,u11,u12,u13,u14,u15,u16,u17,u18,u19,u20,u21,u22,u23,u24].drop 22).take (Tryz.prog.cellsOf 4)) = some zz7:=e7;rw [hc7_] at this;exact this
 have hc8_:Tryz.prog.cellsOf 3 = 1:=by kernel_rfl
 obtain ⟨zz8,hz8⟩:=some_of 8 (by omega)
 have e8:=hel 8 _ rfl
 rw [hz8] at e8
 have f8:DataW.trod enc Tryz.prog w base spare held n 3 [u23] = some zz8:=by have this:DataW.trod enc Tryz.prog w base spare held n 3 (([u0,u1,u2,u3,u4,u5,u6,u7,u8,u9,u10,u11,u12,u13,u14,u15,u16,u17,u18,u19,u20,u21,u22,u23,u24].drop 23).take (Tryz.prog.cellsOf 3)) = some zz8:=e8;rw [hc8_] at this;exact this
 have hc9_:Tryz.prog.cellsOf 3 = 1:=by kernel_rfl
 obtain ⟨zz9,hz9⟩:=some_of 9 (by omega)
 have e9:=hel 9 _ rfl
 rw [hz9] at e9
 have f9:DataW.trod enc Tryz.prog w base spare held n 3 [u24] = some zz9:=by have this:DataW.trod enc Tryz.prog w base spare held n 3 (([u0,u1,u2,u3,u4,u5,u6,u7,u8,u9,u10,u11,u12,u13,u14,u15,u16,u17,u18,u19,u20,u21,u22,u23,u24].drop 24).take (Tryz.prog.cellsOf 3)) = some zz9:=e9;rw [hc9_] at this;exact this
 clear hel some_of hxl hf2 hf hv
 obtain ⟨k,r,hx,hy,hz,o,Ls,c,rfl,rfl,rfl,rfl,rfl,rfl,hL1,hF1,a0,a1,a2,a3,a4⟩:=Jtx f0
 obtain ⟨at0,at1,at2,qa,qb_,qc,qd,rfl,rfl,rfl,rfl,rfl,rfl,rfl,b0_,b1_,b2_,b3_,b4_,b5_,b6_⟩:=Jto f1
 obtain ⟨ms,rfl,_,g0_⟩:=Jb1 f2
 obtain ⟨fr,rfl,_,g1_⟩:=Jb1 f3
 obtain ⟨p0,p1,p2,rfl,rfl,rfl,g2_,g3_,g4_⟩:=Jha f4
 obtain ⟨l0,l1,l2,rfl,rfl,rfl,g5_,g6_,g7_⟩:=Jha f5
 obtain ⟨fx,rfl⟩:=Jo4 f6
 obtain ⟨fa,rfl⟩:=Jo4 f7
 obtain ⟨gr,rfl,_,g8_⟩:=Jb1 f8
 obtain ⟨ma,rfl,_,g9_⟩:=Jb1 f9
 refine ⟨k,r,hx,hy,hz,o,Ls,c,at0,at1,at2,qa,qb_,qc,qd,ms,fr,p0,p1,p2,l0,l1,l2,fx,fa,gr,ma,rfl,hL1,hF1,fun v hv=>?_⟩
 have wf:(Lit.int .i64 v).wf = true:=by
  simp only [List.mem_cons,List.not_mem_nil,or_false] at hv
  rcases hv with rfl | rfl | rfl | rfl | rfl | rfl | rfl | rfl | rfl | rfl | rfl | rfl | rfl | rfl | rfl | rfl | rfl | rfl | rfl | rfl | rfl | rfl <;> assumption
 have:=bounds_i64 wf
 omega
end
end
end Go.Proofs.YteebbpioffdncaaGreat
