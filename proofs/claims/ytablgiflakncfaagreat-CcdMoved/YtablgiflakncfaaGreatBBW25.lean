/- Layer 18's statements: a raw number's part, a raw shot. -/
import Derived.Test.YtablgiflakncfaaGreatBBW23
import Derived.Test.YtablgiflakncfaaGreatBBW12
import Derived.Test.YtablgiflakncfaaGreatBBW24
import Derived.Deep.MidRow
import Derived.Maps.AppendAt
set_option maxHeartbeats 16000000
set_option maxRecDepth 100000
set_option linter.unusedVariables false
namespace Go.Proofs.YtablgiflakncfaaGreat
section
open Go.RowKit Go.Shelf
theorem hpick_any (c n:Int) (w:World) (hc:-9223372036854775808 <= c/\c <= 9223372036854775807) (hn:0 < n) (hn':n <= 9223372036854775807) :
  Calls Tryz.prog 19 #[.int .i64 c,.int .i64 n] w fun e w'=>e = .returned (.int .i64 (pickY c n))/\w' = w:=by
 unfold pickY
 by_cases h:c < 0
 ·have hb:0 <= -(c + 1):=by omega
  have hb':-(c + 1) <= 9223372036854775807:=by omega
  have hz:(n == 0) = false:=beq_eq_false_iff_ne.2 (by omega)
  rw [if_pos h]
  go_enter Tryz.func19,Tryz.ntmps19
  go_wp2
  go_ret
  have e:(c + 1).tmod n = -(-(c + 1) % n):=by
   rw [<- Int.tmod_eq_emod_of_nonneg hb,Int.neg_tmod,Int.neg_neg]
  exact ⟨by rw [e,Int.neg_neg];rfl,rfl⟩
 ·have hz:(n == 0) = false:=beq_eq_false_iff_ne.2 (by omega)
  rw [if_neg h]
  go_enter Tryz.func19,Tryz.ntmps19
  go_wp2
  go_ret
  exact ⟨rfl,rfl⟩
def partY (n m:Int):Int:=pickY n (2 * m + 1) - m
theorem partY_in (n:Int) {m:Int} (h:0 <= m):-m <= partY n m/\partY n m <= m:=by
 have h1:=pickY_lo n (n:=2 * m + 1) (by omega)
 have h2:=pickY_hi n (n:=2 * m + 1) (by omega)
 unfold partY
 omega
theorem hpart_any (n m:Int) (w:World) (hn:-9223372036854775808 <= n/\n <= 9223372036854775807) (hm:0 <= m/\m <= 4611686018427387903) :
  Calls Tryz.prog 20 #[.int .i64 n,.int .i64 m] w fun e w'=>e = .returned (.int .i64 (partY n m))/\Below w.heap.size w w':=by
 have HP:Hid _:=fun w'=>hpick_any n (2 * m + 1) w' hn (by omega) (by omega)
 have h1:=pickY_lo n (n:=2 * m + 1) (by omega)
 have h2:=pickY_hi n (n:=2 * m + 1) (by omega)
 unfold partY
 generalize pickY n (2 * m + 1) = pz at *
 have e1:IntKind.i64.wrap (2 * m) = 2 * m:=by rw [IntKind.wrap_i64];omega
 have e2:IntKind.i64.wrap (2 * m + 1) = 2 * m + 1:=by rw [IntKind.wrap_i64];omega
 have e3:IntKind.i64.wrap (pz - m) = pz - m:=by rw [IntKind.wrap_i64];omega
 go_enter Tryz.func20,Tryz.ntmps20
 go_wp2_with (fail)
 refine Calls.mono (HP.out _) ?_
 rintro e w' ⟨rfl,rfl⟩
 go_wp2_with (fail)
 go_ret
 exact ⟨rfl,Below.refl _ _⟩
theorem core_info:(Tryz.prog.info? 28).map (fun i=>(i.zero,i.size,i.bytes)) = some (some (.agg #[.slice none 0 0,.slice none 0 0,.slice none 0 0,.int .i64 0]),4,80):=by kernel_rfl
theorem core_parts:∃ i:TypeInfo,Tryz.prog.info? 28 = some i/\i.zero = some (.agg #[.slice none 0 0,.slice none 0 0,.slice none 0 0,.int .i64 0])/\i.size = 4/\i.bytes = 80:=by
 have h:=core_info
 cases hi:Tryz.prog.info? 28 with
 | none=>rw [hi] at h;cases h
 | some i =>
  rw [hi] at h
  simp only [Option.map_some,Option.some.injEq,Prod.mk.injEq] at h
  exact ⟨i,rfl,h.1,h.2.1,h.2.2⟩
theorem news_at4 {w:World} {vb:Nat} {x y z u9:Value} {t:TypeId} (h:w.heap[vb]? = some (.cells #[x,y,z,u9] t (0,0))):∀ j u,[x,y,z,u9][j]? = some u->w.cell? ((⟨vb,0,none⟩:Addr).add j) = some u:=by
 intro j u hj
 have ad:(⟨vb,0,none⟩:Addr).add j = ⟨vb,j,none⟩:=by unfold Addr.add;split <;> simp_all
 rw [ad]
 match j,hj with
 | 0,hj=>simp at hj;subst hj;simp [World.cell?,h]
 | 1,hj=>simp at hj;subst hj;simp [World.cell?,h]
 | 2,hj=>simp at hj;subst hj;simp [World.cell?,h]
 | 3,hj=>simp at hj;subst hj;simp [World.cell?,h]
theorem rw_ok {R:List Rw} (o:∀ q ∈ R,q.ok) {i:Nat} (h:i < R.length):(rwAt R i).ok:=by
 unfold rwAt
 rw [List.getElem?_eq_getElem h]
 exact o _ (List.getElem_mem h)
theorem pw_ok {R:List Pw} (o:∀ q ∈ R,q.ok) {i:Nat} (h:i < R.length):(pwAt R i).ok:=by
 unfold pwAt
 rw [List.getElem?_eq_getElem h]
 exact o _ (List.getElem_mem h)
def okC (c:Cr):Prop:=(mayN c/\(1 <= c.r/\c.r <= 16384))/\c.E.length <= 16
theorem made_any (f y:V3) (rr:Int) (R:List Rw) (S:List Pw) (a:Option Addr) (ca:Nat) (b:Option Addr) (cb:Nat) (w0:World) (hR:LiesR w0 (.slice a R.length ca) R) (oR:∀ q ∈ R,q.ok) (hS:LiesP w0 (.slice b S.length cb) S) (oS:∀ q ∈ S,q.ok)
  (bd:(I64 f.x/\I64 f.y/\I64 f.z)/\(I64 y.x/\I64 y.y/\I64 y.z)/\I64 rr) :
  Calls Tryz.prog 12 #[.agg #[.int .i64 f.x,.int .i64 f.y,.int .i64 f.z,.int .i64 y.x,.int .i64 y.y,.int .i64 y.z,.int .i64 rr,.slice a R.length ca,.slice b S.length cb]] w0 fun e W=>∃ (g t:V3) (r:Int) (u:Value) (K:List CoK),e = .returned (.tuple #[g.val,t.val,.int .i64 r,u])/\Hid (LK w0.heap.size W u K)/\(∀ k ∈ K,okC k.c)/\K.length <= 3/\g.m42/\g.n38 t/\(1 <= r/\r <= 16384)/\Below w0.heap.size w0 W:=by
 have HP:Hid _:=fun (i:Nat) (hi:i < R.length) (hj:i < S.length) (pv:Value) (w':World) (hl:Lies w' pv (rwAt R i).L)=>placed_any (rwAt R i).k (rwAt R i).rr (rwAt R i).x (rwAt R i).y (rwAt R i).z pv (rwAt R i).L (pwAt S i).y0 (pwAt S i).y1 (pwAt S i).y2 (pwAt S i).y3 (pwAt S i).y4 (pwAt S i).y5 (pwAt S i).y6 w' (rw_ok oR hi).1.1 (rw_ok oR hi).1.2.1 (rw_ok oR hi).1.2.2.1 (rw_ok oR hi).1.2.2.2.1 (rw_ok oR hi).1.2.2.2.2 hl (rw_ok oR hi).2 (pw_ok oS hj).1 (pw_ok oS hj).2.1 (pw_ok oS hj).2.2.1 (pw_ok oS hj).2.2.2.1 (pw_ok oS hj).2.2.2.2.1 (pw_ok oS hj).2.2.2.2.2.1 (pw_ok oS hj).2.2.2.2.2.2
 obtain ⟨i0,hii,hiz,hisz,hib⟩:=core_parts
 have HI:Hid _:=And.intro hii (And.intro hiz (And.intro hisz hib))
 clear hii hiz hisz hib
 have HLR:Hid _:=hR
 have HLS:Hid _:=hS
 obtain ⟨bf,bg,br⟩:=bd
 have HFx:Hid _:=fun w'=>hpart_any f.x 4398046511104 w' bf.1 (by decide)
 have HGx:Hid _:=fun w'=>hpart_any y.x 274877906944 w' bg.1 (by decide)
 have lfx:=partY_in f.x (m:=4398046511104) (by decide)
 have lgx:=partY_in y.x (m:=274877906944) (by decide)
 generalize partY f.x 4398046511104 = fx at *
 generalize partY y.x 274877906944 = gx at *
 obtain ⟨tx,htx⟩:∃ z,fx + gx = z:=⟨_,rfl⟩
 have w_tx:IntKind.i64.wrap (fx + gx) = tx:=by rw [htx,IntKind.wrap_i64];omega
 have HFy:Hid _:=fun w'=>hpart_any f.y 4398046511104 w' bf.2.1 (by decide)
 have HGy:Hid _:=fun w'=>hpart_any y.y 274877906944 w' bg.2.1 (by decide)
 have lfy:=partY_in f.y (m:=4398046511104) (by decide)
 have lgy:=partY_in y.y (m:=274877906944) (by decide)
 generalize partY f.y 4398046511104 = fy at *
 generalize partY y.y 274877906944 = gy at *
 obtain ⟨ty,hty⟩:∃ z,fy + gy = z:=⟨_,rfl⟩
 have w_ty:IntKind.i64.wrap (fy + gy) = ty:=by rw [hty,IntKind.wrap_i64];omega
 have HFz:Hid _:=fun w'=>hpart_any f.z 4398046511104 w' bf.2.2 (by decide)
 have HGz:Hid _:=fun w'=>hpart_any y.z 274877906944 w' bg.2.2 (by decide)
 have lfz:=partY_in f.z (m:=4398046511104) (by decide)
 have lgz:=partY_in y.z (m:=274877906944) (by decide)
 generalize partY f.z 4398046511104 = fz at *
 generalize partY y.z 274877906944 = gz at *
 obtain ⟨tz,htz⟩:∃ z,fz + gz = z:=⟨_,rfl⟩
 have w_tz:IntKind.i64.wrap (fz + gz) = tz:=by rw [htz,IntKind.wrap_i64];omega
 have HPK:Hid _:=fun w'=>hpick_any rr 16384 w' br (by decide) (by decide)
 have lr1:=pickY_lo rr (n:=16384) (by decide)
 have lr2:=pickY_hi rr (n:=16384) (by decide)
 generalize pickY rr 16384 = pr at *
 obtain ⟨rN,hrN⟩:∃ z,1 + pr = z:=⟨_,rfl⟩
 have w_r:IntKind.i64.wrap (1 + pr) = rN:=by rw [hrN,IntKind.wrap_i64];omega
 have HIN:Hid ((⟨fx,fy,fz⟩:V3).m42/\(⟨fx,fy,fz⟩:V3).n38 ⟨tx,ty,tz⟩/\(1 <= rN/\rN <= 16384)):=by show _/\_;unfold V3.m42 V3.n38;dsimp only;omega
 clear hrN lr1 lr2 bf bg br oR oS hR hS lfx lgx htx lfy lgy hty lfz lgz htz
 obtain ⟨X,hX⟩:∃ V,V = ((w0.alloc (.cells #[.int .i64 f.x,.int .i64 f.y,.int .i64 f.z,.int .i64 y.x,.int .i64 y.y,.int .i64 y.z,.int .i64 rr,.slice a R.length ca,.slice b S.length cb] 41)).alloc (.cells #[.int .i64 0,.int .i64 0,.int .i64 0] 23)).alloc (.cells #[.int .i64 0,.int .i64 0,.int .i64 0] 23):=⟨_,rfl⟩
 have hb0:=n_after w0 (.cells #[.int .i64 f.x,.int .i64 f.y,.int .i64 f.z,.int .i64 y.x,.int .i64 y.y,.int .i64 y.z,.int .i64 rr,.slice a R.length ca,.slice b S.length cb] 41)
 have hb1:=n_after (w0.alloc (.cells #[.int .i64 f.x,.int .i64 f.y,.int .i64 f.z,.int .i64 y.x,.int .i64 y.y,.int .i64 y.z,.int .i64 rr,.slice a R.length ca,.slice b S.length cb] 41)) (.cells #[.int .i64 0,.int .i64 0,.int .i64 0] 23)
 have hb2:=n_after ((w0.alloc (.cells #[.int .i64 f.x,.int .i64 f.y,.int .i64 f.z,.int .i64 y.x,.int .i64 y.y,.int .i64 y.z,.int .i64 rr,.slice a R.length ca,.slice b S.length cb] 41)).alloc (.cells #[.int .i64 0,.int .i64 0,.int .i64 0] 23)) (.cells #[.int .i64 0,.int .i64 0,.int .i64 0] 23)
 obtain ⟨sb,hsb⟩:∃ b,b = w0.heap.size:=⟨_,rfl⟩
 obtain ⟨ra,hra⟩:∃ b,b = w0.heap.size + 1:=⟨_,rfl⟩
 obtain ⟨rb,hrb⟩:∃ b,b = w0.heap.size + 1 + 1:=⟨_,rfl⟩
 have CS:Hid (CW X sb [.int .i64 f.x,.int .i64 f.y,.int .i64 f.z,.int .i64 y.x,.int .i64 y.y,.int .i64 y.z,.int .i64 rr,.slice a R.length ca,.slice b S.length cb]):=by show CW _ _ _;rw [hX,hsb];exact ((CW.new w0 [.int .i64 f.x,.int .i64 f.y,.int .i64 f.z,.int .i64 y.x,.int .i64 y.y,.int .i64 y.z,.int .i64 rr,.slice a R.length ca,.slice b S.length cb] 41).step hb1).step hb2
 have ZA:Hid (X.heap[ra]? = some (.cells #[.int .i64 0,.int .i64 0,.int .i64 0] 23 (0,0))):=by
  show _ = _
  have h9:=heap_alloc_new (w0.alloc (.cells #[.int .i64 f.x,.int .i64 f.y,.int .i64 f.z,.int .i64 y.x,.int .i64 y.y,.int .i64 y.z,.int .i64 rr,.slice a R.length ca,.slice b S.length cb] 41)) (.cells #[.int .i64 0,.int .i64 0,.int .i64 0] 23)
  rw [World.size_alloc] at h9
  rw [hX,hra]
  exact (hb2.block _ (by simp [World.size_alloc])).trans h9
 have ZB:Hid (X.heap[rb]? = some (.cells #[.int .i64 0,.int .i64 0,.int .i64 0] 23 (0,0))):=by
  show _ = _
  have h9:=heap_alloc_new ((w0.alloc (.cells #[.int .i64 f.x,.int .i64 f.y,.int .i64 f.z,.int .i64 y.x,.int .i64 y.y,.int .i64 y.z,.int .i64 rr,.slice a R.length ca,.slice b S.length cb] 41)).alloc (.cells #[.int .i64 0,.int .i64 0,.int .i64 0] 23)) (.cells #[.int .i64 0,.int .i64 0,.int .i64 0] 23)
  rw [World.size_alloc,World.size_alloc] at h9
  rw [hX,hrb]
  exact h9
 have HB:Hid (Below w0.heap.size w0 X):=by show Below _ _ _;rw [hX];exact b_step (b_step hb0 hb1) hb2
 have HSZ:Hid (X.heap.size = w0.heap.size + 1 + 1 + 1/\sb = w0.heap.size/\ra = w0.heap.size + 1/\rb = w0.heap.size + 1 + 1):=⟨by rw [hX];simp only [World.size_alloc],hsb,hra,hrb⟩
 clear hb0 hb1 hb2
 go_enter Tryz.func12,Tryz.ntmps12
 go_upto_region 1 with fail
 rw [<- hX,<- hrb,<- hra,<- hsb]
 clear hX hrb hra hsb
 go_wp2_with (fail)
 go_loopg [6,7] 3 (fun gm s6 s7 wr=>∃ (i:Nat) (oo:Option Addr) (cc:Nat) (K:List CoK),s6 = .slice oo K.length cc/\s7 = .int .i64 (i:Int)/\i <= 3/\Hid (gm = 3 - i)/\K.length <= i/\Hid (i <= R.length)/\Hid (i <= S.length)/\Hid (LK X.heap.size wr (.slice oo K.length cc) K)/\Hid (∀ k ∈ K,okC k.c)/\Hid (Below X.heap.size X wr))
 case atStart=>exact ⟨0,none,0,[],rfl,rfl,by omega,rfl,by simp,Nat.zero_le _,Nat.zero_le _,LK.start _ _,fun k h=>(by cases h),Below.refl _ _⟩
 case round =>
  obtain ⟨i,oo,cc,K,rfl,rfl,hi3,HG,hKl,HIR,HIS,HK,HOK,HB9⟩:=hrel
  have CS9:Hid (CW _ _ _):=CS.out.step HB9.out
  have x7:=(CS9.out 7 _ rfl).1
  have x8:=(CS9.out 8 _ rfl).1
  by_cases hit:i < R.length/\i < S.length/\i < 3
  ·obtain ⟨hiR,hiS,hi⟩:=hit
   have hl1:(i:Int) < (R.length:Int):=by omega
   have hl2:(i:Int) < (S.length:Int):=by omega
   have hl3:(i:Int) < 3:=by omega
   obtain ⟨o5,c5,e5,_,_,hcR⟩:=HLR.out.form
   cases e5
   obtain ⟨gr,fr,pv,rfl,⟨xr0,xr1,xr2,xr3,xr4,xr5⟩,lpv⟩:=hcR i hiR
   obtain ⟨o6,c6,e6,_,_,hcS⟩:=HLS.out.form
   cases e6
   obtain ⟨gs,fs,rfl,⟨xs0,xs1,xs2,xs3,xs4,xs5,xs6⟩⟩:=hcS i hiS
   clear hcR hcS
   have hbW:=b_step HB.out HB9.out
   have xr0:=c_after hbW xr0
   have xr1:=c_after hbW xr1
   have xr2:=c_after hbW xr2
   have xr3:=c_after hbW xr3
   have xr4:=c_after hbW xr4
   have xr5:=c_after hbW xr5
   have xs0:=c_after hbW xs0
   have xs1:=c_after hbW xs1
   have xs2:=c_after hbW xs2
   have xs3:=c_after hbW xs3
   have xs4:=c_after hbW xs4
   have xs5:=c_after hbW xs5
   have xs6:=c_after hbW xs6
   have HLP:Hid (Lies wr pv (rwAt R i).L):=lpv.below hbW
   have HPI:Hid _:=fun (w':World) (h:Below wr.heap.size wr w')=>HP.out i hiR hiS pv w' (HLP.out.below h)
   clear lpv hbW HLP
   obtain ⟨⟨rk,rr5,rx,ry,rz,rL⟩,hrw⟩:∃ q,rwAt R i = q:=⟨_,rfl⟩
   obtain ⟨⟨p0,p1,p2,p3,p4,p5,p6⟩,hpw⟩:∃ q,pwAt S i = q:=⟨_,rfl⟩
   rw [hrw] at xr0 xr1 xr2 xr3 xr4 HPI
   rw [hpw] at xs0 xs1 xs2 xs3 xs4 xs5 xs6 HPI
   dsimp only at xr0 xr1 xr2 xr3 xr4 xs0 xs1 xs2 xs3 xs4 xs5 xs6 HPI
   clear hrw hpw
   have hob:∀ b,(Value.slice oo K.length cc).ownBlock = some b->b < wr.heap.size:=fun b e=>(HK.out.row.lt b e).2
   have HOB:Hid _:=hob
   clear hob
   go_upto_region 5 with fail
   refine RV.rs [.some (.pointer (some ⟨sb,7,none⟩)),.some (.slice (some ⟨gr,fr,none⟩) R.length ca),.some (.int .i64 (i:Int)),.some (.pointer (some ⟨gr,fr + i * 6,none⟩)),.some (.agg #[.int .i64 rk,.int .i64 rr5,.int .i64 rx,.int .i64 ry,.int .i64 rz,pv]),.some (.pointer (some ⟨sb,8,none⟩)),.some (.slice (some ⟨gs,fs,none⟩) S.length cb),.some (.int .i64 (i:Int)),.some (.pointer (some ⟨gs,fs + i * 7,none⟩)),.some (.agg #[.int .i64 p0,.int .i64 p1,.int .i64 p2,.int .i64 p3,.int .i64 p4,.int .i64 p5,.int .i64 p6]),none,none,none] [30,31,32,33,34,35,36,37,38,39,40,9,0] [(1,.pointer (some ⟨sb,0,none⟩)),(7,.int .i64 (i:Int))] (fun γ L w=>KG wr (Value.slice oo K.length cc).ownBlock (fun c=>mayN c/\(1 <= c.r/\c.r <= 16384)) 10 11 12 γ L w) ⟨rfl,rfl,trivial⟩ KG.start ?_ ?_
   ·intro D WA Z hD hWA hZ T
    simp only [RV.Outs,RV.Slots,Nat.reduceAdd] at T
    (refine RV.cc _ (RV.pu T (fun γ v L w hl h=>h.other _ (by decide) (by decide) (by decide)) (fun γ L a w hH hl h9 k9=>⟨_,?_,rfl⟩)) ?_;· simp [execOp,go_sem,h9])
    (refine RV.cc _ (RV.pu T (fun γ v L w hl h=>h.other _ (by decide) (by decide) (by decide)) (fun γ L a w hH hl h9 k9=>⟨_,?_,rfl⟩)) ?_;· have x79:=c_after hH.glob.below x7;simp [Region.binds] at k9;simp [execOp,go_sem,h9,k9,x79])
    (refine RV.cc _ (RV.pu T (fun γ v L w hl h=>h.other _ (by decide) (by decide) (by decide)) (fun γ L a w hH hl h9 k9=>⟨_,?_,rfl⟩)) ?_;· simp [execOp,go_sem,h9])
    (refine RV.cc _ (RV.pu T (fun γ v L w hl h=>h.other _ (by decide) (by decide) (by decide)) (fun γ L a w hH hl h9 k9=>⟨_,?_,rfl⟩)) ?_;· simp [Region.binds] at k9;simp [execOp,go_sem,h9,k9,hl1])
    (refine RV.cc _ (RV.pu T (fun γ v L w hl h=>h.other _ (by decide) (by decide) (by decide)) (fun γ L a w hH hl h9 k9=>⟨_,?_,rfl⟩)) ?_;· have xr09:=c_after hH.glob.below xr0;have xr19:=c_after hH.glob.below xr1;have xr29:=c_after hH.glob.below xr2;have xr39:=c_after hH.glob.below xr3;have xr49:=c_after hH.glob.below xr4;have xr59:=c_after hH.glob.below xr5;simp [Region.binds] at k9;simp [execOp,go_sem,h9,k9,xr09,xr19,xr29,xr39,xr49,xr59])
    (refine RV.cc _ (RV.pu T (fun γ v L w hl h=>h.other _ (by decide) (by decide) (by decide)) (fun γ L a w hH hl h9 k9=>⟨_,?_,rfl⟩)) ?_;· simp [execOp,go_sem,h9])
    (refine RV.cc _ (RV.pu T (fun γ v L w hl h=>h.other _ (by decide) (by decide) (by decide)) (fun γ L a w hH hl h9 k9=>⟨_,?_,rfl⟩)) ?_;· have x89:=c_after hH.glob.below x8;simp [Region.binds] at k9;simp [execOp,go_sem,h9,k9,x89])
    (refine RV.cc _ (RV.pu T (fun γ v L w hl h=>h.other _ (by decide) (by decide) (by decide)) (fun γ L a w hH hl h9 k9=>⟨_,?_,rfl⟩)) ?_;· simp [execOp,go_sem,h9])
    (refine RV.cc _ (RV.pu T (fun γ v L w hl h=>h.other _ (by decide) (by decide) (by decide)) (fun γ L a w hH hl h9 k9=>⟨_,?_,rfl⟩)) ?_;· simp [Region.binds] at k9;simp [execOp,go_sem,h9,k9,hl2])
    (refine RV.cc _ (RV.pu T (fun γ v L w hl h=>h.other _ (by decide) (by decide) (by decide)) (fun γ L a w hH hl h9 k9=>⟨_,?_,rfl⟩)) ?_;· have xs09:=c_after hH.glob.below xs0;have xs19:=c_after hH.glob.below xs1;have xs29:=c_after hH.glob.below xs2;have xs39:=c_after hH.glob.below xs3;have xs49:=c_after hH.glob.below xs4;have xs59:=c_after hH.glob.below xs5;have xs69:=c_after hH.glob.below xs6;simp [Region.binds] at k9;simp [execOp,go_sem,h9,k9,xs09,xs19,xs29,xs39,xs49,xs59,xs69])
    refine RV.cc _ (RV.dc (fun γ L a w hH hl hA=>by have h9:=T γ L a w hH;have k9:=hA;simp [Region.binds] at k9;have h12:L 12 = false:=RV.ny hH (RV.wt (j:=12) (i:=10) hWA (by kernel_rfl)) hl;exact ⟨_,_,by simp [go_sem,h9,k9],Calls.mono (HPI.out w hH.glob.below) (by rintro e w2 ⟨c,vp,va,ve,rfl,h3,hm,hr⟩;exact ⟨_,rfl,trivial,fun j v _ h=>h.keep _,hH.glob.come h12 (k:=⟨vp,va,ve,c⟩) h3.out HOB.out ⟨hm,hr⟩ (by decide) (by decide)⟩)⟩)) ?_
    refine RV.cc _ (RV.does_step (fun γ L a w hH hl hA=>⟨.pointer (some ⟨w.heap.size,0,none⟩),w.alloc (.cells #[.slice none 0 0,.slice none 0 0,.slice none 0 0,.int .i64 0] 28),by simp [execOp,go_sem],trivial,fun j v _ h=>h.keep _,hH.glob.made (RV.ny hH (RV.wt (j:=12) (i:=11) hWA (by kernel_rfl)) hl) rfl (by decide) (by decide)⟩)) ?_
    refine RV.cc _ (RV.does_store (fun γ L a w hH hl hA=>by have l0:L 11 = true:=hA ⟨11,.data⟩ (by simp) rfl;have l1:L 10 = true:=hA ⟨10,.data⟩ (by simp) rfl;have e0:=hH.slot 11 8 (by rw [<- hD];rfl) l0;have e1:=hH.slot 10 39 (by rw [<- hD];rfl) l1;obtain ⟨k,b,g1,g2,g3,g4,g5⟩:=hH.glob.spot l1 l0;rw [g1] at e1;rw [g2] at e0;exact ⟨_,exec_store_all 28 _ _ rfl b 0 k.cells (by simp [Act.eval,e0]) (by simp [Act.eval,e1]) g3 (by kernel_rfl) g4,trivial,fun j v _ h=>h.keep _,g5 (by decide) (by decide) _⟩)) ?_
    exact RV.AllDo.nil
   ·intro γ w5 L9 hL hI9 hG9
    obtain ⟨k,nb,e9,hnb,Cnb,hlie,hfar,hhigh,hok,hbb,e8⟩:=hG9.done (hL 10 (by decide)) (hL 11 (by decide)) (hL 12 (by decide))
    have HBB:Hid (Below _ _ _):=hbb
    have HK5:Hid (LK X.heap.size w5 (.slice oo K.length cc) K):=HK.out.step hbb
    have HKL:Hid (k.lie w5/\k.far (Value.slice oo K.length cc).ownBlock/\k.high X.heap.size/\(mayN k.c/\(1 <= k.c.r/\k.c.r <= 16384))):=⟨hlie,hfar,hhigh.mono HB9.out.size,hok⟩
    have CN:Hid (CW _ _ _):=Cnb
    have HB9:Hid (Below X.heap.size X w5):=b_step HB9.out hbb
    obtain ⟨kp,ka,ke,c⟩:=k
    dsimp only at *
    have j1:Lies w5 kp c.P:=hlie.1
    have j2:Lies w5 ka c.A:=hlie.2.1
    have j3:Lies w5 ke c.E:=hlie.2.2
    obtain ⟨op,cp,rfl,_⟩:=j1.form
    obtain ⟨oa,ca',rfl,_⟩:=j2.form
    obtain ⟨oe,ce,rfl,_⟩:=j3.form
    clear j1 j2 j3
    unfold CoK.cells at e8
    dsimp only at *
    clear hG9 hbb hlie hfar hhigh hok Cnb HPI xr0 xr1 xr2 xr3 xr4 xr5 xs0 xs1 xs2 xs3 xs4 xs5 xs6 x7 x8
    simp only [RV.putL,Act.put,List.setIfInBounds_toArray,List.set_cons_zero,List.set_cons_succ,Nat.reduceAdd]
    rw [e9,e8]
    clear hI9 hL e9 e8
    have y0:=(CN.out 0 _ rfl).1
    have y1:=(CN.out 1 _ rfl).1
    have y2:=(CN.out 2 _ rfl).1
    have y3:=(CN.out 3 _ rfl).1
    clear hl1 hl2 hl3 CN hnb
    have hws:X.heap.size <= w5.heap.size:=HB9.out.size
    by_cases hE:(c.E.length:Int) <= 16
    ·go_wp2_with (at_builtin;refine wpList_append_own_at _ rfl _ _ 24 rfl X.heap.size 28 i0 _ 4 80 Tryz.underlying24 HI.out.1 HI.out.2.1 HI.out.2.2.1 HI.out.2.2.2 rfl (by decide) _ _ _ rfl (own_below HK5.out.row (n_after w5 _)) ⟨w5.heap.size,0,none⟩ 1 1 [.slice op c.P.length cp,.slice oa c.A.length ca',.slice oe c.E.length ce,.int .i64 c.r] rfl rfl (news_at4 (heap_alloc_new w5 _)) (by intro u hu;simp at hu;rcases hu with rfl | rfl | rfl | rfl <;> rfl) (by unfold maxLen;omega) (by omega) (by simp;omega) ?_;intro u9 V6 r8 g8 _ s8;obtain ⟨gg8,kk8,rfl⟩:=ownsRow_succ r8;have hKN:LK X.heap.size V6 (.slice (some ⟨gg8,0,none⟩) (K.length + 1) kk8) (K ++ [⟨.slice op c.P.length cp,.slice oa c.A.length ca',.slice oe c.E.length ce,c⟩]):=(HK5.out.step (n_after w5 _)).app (k:=⟨.slice op c.P.length cp,.slice oa c.A.length ca',.slice oe c.E.length ce,c⟩) (HKL.out.1.below (n_after w5 _)) HKL.out.2.1 HKL.out.2.2.1 r8 g8 s8;have HKN:Hid _:=hKN;have HB6:Hid (Below X.heap.size X V6):=(b_step HB9.out (n_after w5 _)).grown g8 (by simp;omega) (fun b e=>(HK5.out.row.lt b e).1);clear r8 g8 s8 hKN)
     have hKl2:(K ++ [(⟨.slice op c.P.length cp,.slice oa c.A.length ca',.slice oe c.E.length ce,c⟩:CoK)]).length = K.length + 1:=by simp
     have HOK2:Hid (∀ k ∈ K ++ [(⟨.slice op c.P.length cp,.slice oa c.A.length ca',.slice oe c.E.length ce,c⟩:CoK)],okC k.c):=fun k hk=>by
      rcases List.mem_append.1 hk with hk | hk
      ·exact HOK.out k hk
      ·rw [List.mem_singleton.1 hk];exact ⟨HKL.out.2.2.2,by dsimp only;omega⟩
     generalize K ++ [(⟨.slice op c.P.length cp,.slice oa c.A.length ca',.slice oe c.E.length ce,c⟩:CoK)] = K2 at *
     go_roundg (3 - (i + 1))
     case measure=>have:=HG.out;omega
     case rel=>exact ⟨i + 1,some ⟨gg8,0,none⟩,kk8,K2,by rw [hKl2],by go_num,by omega,rfl,by omega,(by show _ <= _;omega),(by show _ <= _;omega),by rw [hKl2];exact HKN,HOK2,HB6⟩
    ·go_wp2_with (fail)
     go_roundg (3 - (i + 1))
     case measure=>have:=HG.out;omega
     case rel=>exact ⟨i + 1,oo,cc,K,rfl,by go_num,by omega,rfl,by omega,(by show _ <= _;omega),(by show _ <= _;omega),HK5,HOK,HB9⟩
  ·go_upto_region 3 with fail
   go_cut [6,7,26] from 11 to 26 (fun s6 s7 s26 wx=>s6 = .slice oo K.length cc/\s7 = .int .i64 (i:Int)/\s26 = .bool false/\wx = wr)
   case first =>
    by_cases q1:i < R.length
    ·have hl1:(i:Int) < (R.length:Int):=by omega
     by_cases q2:i < S.length
     ·have hl2:(i:Int) < (S.length:Int):=by omega
      have hl3:¬ (i:Int) < 3:=by omega
      clear hit q1 q2
      go_wp2_with (fail)
      go_meet
      case rel=>exact ⟨rfl,rfl,by simp,rfl⟩
     ·have hl2:¬ (i:Int) < (S.length:Int):=by omega
      clear hit q1 q2
      go_wp2_with (fail)
      go_meet
      case rel=>exact ⟨rfl,rfl,by simp,rfl⟩
    ·have hl1:¬ (i:Int) < (R.length:Int):=by omega
     clear hit q1
     go_wp2_with (fail)
     go_meet
     case rel=>exact ⟨rfl,rfl,by simp,rfl⟩
   case rest =>
    obtain ⟨rfl,rfl,rfl,hwc⟩:=hcut
    obtain rfl:wr = wc:=hwc.symm
    clear hwc x7 x8 hit HP HLR HLS HG HIR HIS CS9
    have HXW:Hid (X.heap.size <= wr.heap.size):=HB9.out.size
    have HBX:Hid (Below X.heap.size X wr):=HB9
    have CS:Hid (CW _ _ _):=CS.out.step HB9.out
    have y0:=(CS.out 0 _ rfl).1
    have y1:=(CS.out 1 _ rfl).1
    have y2:=(CS.out 2 _ rfl).1
    have y3:=(CS.out 3 _ rfl).1
    have y4:=(CS.out 4 _ rfl).1
    have y5:=(CS.out 5 _ rfl).1
    clear HB9
    go_upto_region 8 with fail
    refine RV.rs [.some (.pointer (some ⟨sb,0,none⟩)),.some (.pointer (some ⟨sb,0,none⟩)),.some (.int .i64 f.x),.some (.int .i64 fx),.some (.pointer (some ⟨sb,0,none⟩)),.some (.pointer (some ⟨sb,1,none⟩)),.some (.int .i64 f.y),.some (.int .i64 fy),.some (.pointer (some ⟨sb,0,none⟩)),.some (.pointer (some ⟨sb,2,none⟩)),.some (.int .i64 f.z),.some (.int .i64 fz),.some (.agg #[.int .i64 fx,.int .i64 fy,.int .i64 fz]),none,none] [49,50,51,52,53,54,55,56,57,58,59,60,61,10,0] [(1,.pointer (some ⟨sb,0,none⟩))] (fun γ L w=>NB wr 23 13 14 #[.int .i64 fx,.int .i64 fy,.int .i64 fz] γ L w) ⟨rfl,trivial⟩ NB.start ?_ ?_
    ·intro D WA Z hD hWA hZ T
     simp only [RV.Outs,RV.Slots,Nat.reduceAdd] at T
     (refine RV.cc _ (RV.pu T (fun γ v L w hl h=>h.other _ (by decide) (by decide)) (fun γ L a w hH hl h9 k9=>⟨_,?_,rfl⟩)) ?_;· simp [execOp,go_sem,h9])
     (refine RV.cc _ (RV.pu T (fun γ v L w hl h=>h.other _ (by decide) (by decide)) (fun γ L a w hH hl h9 k9=>⟨_,?_,rfl⟩)) ?_;· simp [Region.binds] at k9;simp [execOp,go_sem,h9,k9])
     (refine RV.cc _ (RV.pu T (fun γ v L w hl h=>h.other _ (by decide) (by decide)) (fun γ L a w hH hl h9 k9=>⟨_,?_,rfl⟩)) ?_;· have q0:=c_after hH.glob.below y0;simp [Region.binds] at k9;simp [execOp,go_sem,h9,k9,q0])
     refine RV.cc _ (RV.dc (fun γ L a w hH hl hA=>by have h9:=T γ L a w hH;have k9:=hA;simp [Region.binds] at k9;exact ⟨_,_,by simp [go_sem,h9,k9],Calls.mono (HFx.out w) (by rintro e w2 ⟨rfl,ha⟩;exact ⟨_,rfl,rfl,fun j v _ h=>h.keep _,hH.glob.come _ ha (by decide) (by decide)⟩)⟩)) ?_
     (refine RV.cc _ (RV.pu T (fun γ v L w hl h=>h.other _ (by decide) (by decide)) (fun γ L a w hH hl h9 k9=>⟨_,?_,rfl⟩)) ?_;· simp [execOp,go_sem,h9])
     (refine RV.cc _ (RV.pu T (fun γ v L w hl h=>h.other _ (by decide) (by decide)) (fun γ L a w hH hl h9 k9=>⟨_,?_,rfl⟩)) ?_;· simp [Region.binds] at k9;simp [execOp,go_sem,h9,k9])
     (refine RV.cc _ (RV.pu T (fun γ v L w hl h=>h.other _ (by decide) (by decide)) (fun γ L a w hH hl h9 k9=>⟨_,?_,rfl⟩)) ?_;· have q0:=c_after hH.glob.below y1;simp [Region.binds] at k9;simp [execOp,go_sem,h9,k9,q0])
     refine RV.cc _ (RV.dc (fun γ L a w hH hl hA=>by have h9:=T γ L a w hH;have k9:=hA;simp [Region.binds] at k9;exact ⟨_,_,by simp [go_sem,h9,k9],Calls.mono (HFy.out w) (by rintro e w2 ⟨rfl,ha⟩;exact ⟨_,rfl,rfl,fun j v _ h=>h.keep _,hH.glob.come _ ha (by decide) (by decide)⟩)⟩)) ?_
     (refine RV.cc _ (RV.pu T (fun γ v L w hl h=>h.other _ (by decide) (by decide)) (fun γ L a w hH hl h9 k9=>⟨_,?_,rfl⟩)) ?_;· simp [execOp,go_sem,h9])
     (refine RV.cc _ (RV.pu T (fun γ v L w hl h=>h.other _ (by decide) (by decide)) (fun γ L a w hH hl h9 k9=>⟨_,?_,rfl⟩)) ?_;· simp [Region.binds] at k9;simp [execOp,go_sem,h9,k9])
     (refine RV.cc _ (RV.pu T (fun γ v L w hl h=>h.other _ (by decide) (by decide)) (fun γ L a w hH hl h9 k9=>⟨_,?_,rfl⟩)) ?_;· have q0:=c_after hH.glob.below y2;simp [Region.binds] at k9;simp [execOp,go_sem,h9,k9,q0])
     refine RV.cc _ (RV.dc (fun γ L a w hH hl hA=>by have h9:=T γ L a w hH;have k9:=hA;simp [Region.binds] at k9;exact ⟨_,_,by simp [go_sem,h9,k9],Calls.mono (HFz.out w) (by rintro e w2 ⟨rfl,ha⟩;exact ⟨_,rfl,rfl,fun j v _ h=>h.keep _,hH.glob.come _ ha (by decide) (by decide)⟩)⟩)) ?_
     (refine RV.cc _ (RV.pu T (fun γ v L w hl h=>h.other _ (by decide) (by decide)) (fun γ L a w hH hl h9 k9=>⟨_,?_,rfl⟩)) ?_;· simp [Region.binds] at k9;simp [execOp,go_sem,h9,k9])
     refine RV.cc _ (RV.does_step (fun γ L a w hH hl hA=>⟨.pointer (some ⟨w.heap.size,0,none⟩),w.alloc (.cells #[.int .i64 0,.int .i64 0,.int .i64 0] 23),by simp [execOp,go_sem],trivial,fun j v _ h=>h.keep _,hH.glob.made #[.int .i64 0,.int .i64 0,.int .i64 0] rfl (RV.ny hH (RV.wt (j:=14) (i:=13) hWA (by kernel_rfl)) hl) (by decide)⟩)) ?_
     refine RV.cc _ (RV.does_store (fun γ L a w hH hl hA=>by have h9:=T γ L a w hH;have k9:=hA;simp [Region.binds] at k9;have l0:L 13 = true:=hA ⟨13,.data⟩ (by simp) rfl;have e0:=hH.slot 13 9 (by rw [<- hD];rfl) l0;obtain ⟨b,hb1,hb2,hb3,hb4⟩:=hH.glob.spot l0;rw [hb1] at e0;exact ⟨_,exec_store_all 23 _ _ rfl b 0 _ (by simp [Act.eval,e0]) (by simp [Act.eval,h9,k9]) hb3 (by kernel_rfl) (by simp only [List.all_toArray,List.all_cons,List.all_nil,Value.oneCell',Bool.and_self]),trivial,fun j v _ h=>h.keep _,hb4 (by decide) _⟩)) ?_
     exact RV.AllDo.nil
    ·intro γ w5 L9 hL hI9 hG9
     obtain ⟨hB9,nb,e9,hnb,Cnb⟩:=hG9.done (hL 13 (by decide)) (hL 14 (by decide))
     have HB9:Hid (Below _ _ _):=hB9
     clear hG9 hB9
     simp only [RV.putL,Act.put,List.setIfInBounds_toArray,List.set_cons_zero,List.set_cons_succ,Nat.reduceAdd]
     rw [e9]
     have Cnb:Hid (CW _ _ _):=Cnb
     clear e9
     clear hI9 hL
     have HB8:Hid (Below _ _ _):=HB9
     have C9:Hid (CW _ _ _):=Cnb
     have CS:Hid (CW _ _ _):=CS.out.step HB9.out
     have HK:Hid (LK _ _ _ _):=HK.out.step HB9.out
     have HBX:Hid (Below _ _ _):=b_step HBX.out HB9.out
     have h9sz:Hid (wr.heap.size <= nb/\X.heap.size <= wr.heap.size):=⟨hnb,HXW.out⟩
     have HB8S:Hid (wr.heap.size <= w5.heap.size):=HB9.out.size
     clear HB9 HB8 hnb Cnb y0 y1 y2 y3 y4 y5
     have y3:=(CS.out 3 _ rfl).1
     have y4:=(CS.out 4 _ rfl).1
     have y5:=(CS.out 5 _ rfl).1
     have z0:=(C9.out 0 _ rfl).1
     have z1:=(C9.out 1 _ rfl).1
     have z2:=(C9.out 2 _ rfl).1
     go_upto_region 9 with fail
     have hw5:Hid (wr.heap.size <= w5.heap.size):=HB8S.out
     refine RV.rs [.some (.pointer (some ⟨nb,0,none⟩)),.some (.int .i64 fx),.some (.pointer (some ⟨sb,3,none⟩)),.some (.pointer (some ⟨sb,3,none⟩)),.some (.int .i64 y.x),.some (.int .i64 gx),.some (.int .i64 tx),.some (.pointer (some ⟨nb,1,none⟩)),.some (.int .i64 fy),.some (.pointer (some ⟨sb,3,none⟩)),.some (.pointer (some ⟨sb,4,none⟩)),.some (.int .i64 y.y),.some (.int .i64 gy),.some (.int .i64 ty),.some (.pointer (some ⟨nb,2,none⟩)),.some (.int .i64 fz),.some (.pointer (some ⟨sb,3,none⟩)),.some (.pointer (some ⟨sb,5,none⟩)),.some (.int .i64 y.z),.some (.int .i64 gz),.some (.int .i64 tz),.some (.agg #[.int .i64 tx,.int .i64 ty,.int .i64 tz]),none,none] [62,63,64,65,66,67,68,69,70,71,72,73,74,75,76,77,78,79,80,81,82,83,11,0] [(1,.pointer (some ⟨sb,0,none⟩)),(9,.pointer (some ⟨nb,0,none⟩))] (fun γ L w=>NB w5 23 22 23 #[.int .i64 tx,.int .i64 ty,.int .i64 tz] γ L w) ⟨rfl,rfl,trivial⟩ NB.start ?_ ?_
     ·intro D WA Z hD hWA hZ T
      simp only [RV.Outs,RV.Slots,Nat.reduceAdd] at T
      (refine RV.cc _ (RV.pu T (fun γ v L w hl h=>h.other _ (by decide) (by decide)) (fun γ L a w hH hl h9 k9=>⟨_,?_,rfl⟩)) ?_;· simp [execOp,go_sem,h9])
      (refine RV.cc _ (RV.pu T (fun γ v L w hl h=>h.other _ (by decide) (by decide)) (fun γ L a w hH hl h9 k9=>⟨_,?_,rfl⟩)) ?_;· have q0:=c_after hH.glob.below z0;simp [Region.binds] at k9;simp [execOp,go_sem,h9,k9,q0])
      (refine RV.cc _ (RV.pu T (fun γ v L w hl h=>h.other _ (by decide) (by decide)) (fun γ L a w hH hl h9 k9=>⟨_,?_,rfl⟩)) ?_;· simp [execOp,go_sem,h9])
      (refine RV.cc _ (RV.pu T (fun γ v L w hl h=>h.other _ (by decide) (by decide)) (fun γ L a w hH hl h9 k9=>⟨_,?_,rfl⟩)) ?_;· simp [Region.binds] at k9;simp [execOp,go_sem,h9,k9])
      (refine RV.cc _ (RV.pu T (fun γ v L w hl h=>h.other _ (by decide) (by decide)) (fun γ L a w hH hl h9 k9=>⟨_,?_,rfl⟩)) ?_;· have q0:=c_after hH.glob.below y3;simp [Region.binds] at k9;simp [execOp,go_sem,h9,k9,q0])
      refine RV.cc _ (RV.dc (fun γ L a w hH hl hA=>by have h9:=T γ L a w hH;have k9:=hA;simp [Region.binds] at k9;exact ⟨_,_,by simp [go_sem,h9,k9],Calls.mono (HGx.out w) (by rintro e w2 ⟨rfl,ha⟩;exact ⟨_,rfl,rfl,fun j v _ h=>h.keep _,hH.glob.come _ ha (by decide) (by decide)⟩)⟩)) ?_
      (refine RV.cc _ (RV.pu T (fun γ v L w hl h=>h.other _ (by decide) (by decide)) (fun γ L a w hH hl h9 k9=>⟨_,?_,rfl⟩)) ?_;· simp [Region.binds] at k9;simp [execOp,go_sem,h9,k9,w_tx])
      (refine RV.cc _ (RV.pu T (fun γ v L w hl h=>h.other _ (by decide) (by decide)) (fun γ L a w hH hl h9 k9=>⟨_,?_,rfl⟩)) ?_;· simp [execOp,go_sem,h9])
      (refine RV.cc _ (RV.pu T (fun γ v L w hl h=>h.other _ (by decide) (by decide)) (fun γ L a w hH hl h9 k9=>⟨_,?_,rfl⟩)) ?_;· have q0:=c_after hH.glob.below z1;simp [Region.binds] at k9;simp [execOp,go_sem,h9,k9,q0])
      (refine RV.cc _ (RV.pu T (fun γ v L w hl h=>h.other _ (by decide) (by decide)) (fun γ L a w hH hl h9 k9=>⟨_,?_,rfl⟩)) ?_;· simp [execOp,go_sem,h9])
      (refine RV.cc _ (RV.pu T (fun γ v L w hl h=>h.other _ (by decide) (by decide)) (fun γ L a w hH hl h9 k9=>⟨_,?_,rfl⟩)) ?_;· simp [Region.binds] at k9;simp [execOp,go_sem,h9,k9])
      (refine RV.cc _ (RV.pu T (fun γ v L w hl h=>h.other _ (by decide) (by decide)) (fun γ L a w hH hl h9 k9=>⟨_,?_,rfl⟩)) ?_;· have q0:=c_after hH.glob.below y4;simp [Region.binds] at k9;simp [execOp,go_sem,h9,k9,q0])
      refine RV.cc _ (RV.dc (fun γ L a w hH hl hA=>by have h9:=T γ L a w hH;have k9:=hA;simp [Region.binds] at k9;exact ⟨_,_,by simp [go_sem,h9,k9],Calls.mono (HGy.out w) (by rintro e w2 ⟨rfl,ha⟩;exact ⟨_,rfl,rfl,fun j v _ h=>h.keep _,hH.glob.come _ ha (by decide) (by decide)⟩)⟩)) ?_
      (refine RV.cc _ (RV.pu T (fun γ v L w hl h=>h.other _ (by decide) (by decide)) (fun γ L a w hH hl h9 k9=>⟨_,?_,rfl⟩)) ?_;· simp [Region.binds] at k9;simp [execOp,go_sem,h9,k9,w_ty])
      (refine RV.cc _ (RV.pu T (fun γ v L w hl h=>h.other _ (by decide) (by decide)) (fun γ L a w hH hl h9 k9=>⟨_,?_,rfl⟩)) ?_;· simp [execOp,go_sem,h9])
      (refine RV.cc _ (RV.pu T (fun γ v L w hl h=>h.other _ (by decide) (by decide)) (fun γ L a w hH hl h9 k9=>⟨_,?_,rfl⟩)) ?_;· have q0:=c_after hH.glob.below z2;simp [Region.binds] at k9;simp [execOp,go_sem,h9,k9,q0])
      (refine RV.cc _ (RV.pu T (fun γ v L w hl h=>h.other _ (by decide) (by decide)) (fun γ L a w hH hl h9 k9=>⟨_,?_,rfl⟩)) ?_;· simp [execOp,go_sem,h9])
      (refine RV.cc _ (RV.pu T (fun γ v L w hl h=>h.other _ (by decide) (by decide)) (fun γ L a w hH hl h9 k9=>⟨_,?_,rfl⟩)) ?_;· simp [Region.binds] at k9;simp [execOp,go_sem,h9,k9])
      (refine RV.cc _ (RV.pu T (fun γ v L w hl h=>h.other _ (by decide) (by decide)) (fun γ L a w hH hl h9 k9=>⟨_,?_,rfl⟩)) ?_;· have q0:=c_after hH.glob.below y5;simp [Region.binds] at k9;simp [execOp,go_sem,h9,k9,q0])
      refine RV.cc _ (RV.dc (fun γ L a w hH hl hA=>by have h9:=T γ L a w hH;have k9:=hA;simp [Region.binds] at k9;exact ⟨_,_,by simp [go_sem,h9,k9],Calls.mono (HGz.out w) (by rintro e w2 ⟨rfl,ha⟩;exact ⟨_,rfl,rfl,fun j v _ h=>h.keep _,hH.glob.come _ ha (by decide) (by decide)⟩)⟩)) ?_
      (refine RV.cc _ (RV.pu T (fun γ v L w hl h=>h.other _ (by decide) (by decide)) (fun γ L a w hH hl h9 k9=>⟨_,?_,rfl⟩)) ?_;· simp [Region.binds] at k9;simp [execOp,go_sem,h9,k9,w_tz])
      (refine RV.cc _ (RV.pu T (fun γ v L w hl h=>h.other _ (by decide) (by decide)) (fun γ L a w hH hl h9 k9=>⟨_,?_,rfl⟩)) ?_;· simp [Region.binds] at k9;simp [execOp,go_sem,h9,k9])
      refine RV.cc _ (RV.does_step (fun γ L a w hH hl hA=>⟨.pointer (some ⟨w.heap.size,0,none⟩),w.alloc (.cells #[.int .i64 0,.int .i64 0,.int .i64 0] 23),by simp [execOp,go_sem],trivial,fun j v _ h=>h.keep _,hH.glob.made #[.int .i64 0,.int .i64 0,.int .i64 0] rfl (RV.ny hH (RV.wt (j:=23) (i:=22) hWA (by kernel_rfl)) hl) (by decide)⟩)) ?_
      refine RV.cc _ (RV.does_store (fun γ L a w hH hl hA=>by have h9:=T γ L a w hH;have k9:=hA;simp [Region.binds] at k9;have l0:L 22 = true:=hA ⟨22,.data⟩ (by simp) rfl;have e0:=hH.slot 22 10 (by rw [<- hD];rfl) l0;obtain ⟨b,hb1,hb2,hb3,hb4⟩:=hH.glob.spot l0;rw [hb1] at e0;exact ⟨_,exec_store_all 23 _ _ rfl b 0 _ (by simp [Act.eval,e0]) (by simp [Act.eval,h9,k9]) hb3 (by kernel_rfl) (by simp only [List.all_toArray,List.all_cons,List.all_nil,Value.oneCell',Bool.and_self]),trivial,fun j v _ h=>h.keep _,hb4 (by decide) _⟩)) ?_
      exact RV.AllDo.nil
     ·intro γ w6 L9 hL hI9 hG9
      obtain ⟨hB9,mb,e9,hmb,Cmb⟩:=hG9.done (hL 22 (by decide)) (hL 23 (by decide))
      have HB9:Hid (Below _ _ _):=hB9
      clear hG9 hB9
      simp only [RV.putL,Act.put,List.setIfInBounds_toArray,List.set_cons_zero,List.set_cons_succ,Nat.reduceAdd]
      rw [e9]
      have Cmb:Hid (CW _ _ _):=Cmb
      clear e9
      clear hI9 hL
      have HNM:Hid (w5.heap.size <= mb):=hmb
      have Cm:Hid (CW _ _ _):=Cmb
      have CS:Hid (CW _ _ _):=CS.out.step HB9.out
      have C9:Hid (CW _ _ _):=C9.out.step HB9.out
      have HK:Hid (LK _ _ _ _):=HK.out.step HB9.out
      have HBX:Hid (Below _ _ _):=b_step HBX.out HB9.out
      clear HB9 y3 y4 y5 z0 z1 z2
      have y6:=(CS.out 6 _ rfl).1
      have z0:=(C9.out 0 _ rfl).1
      have z1:=(C9.out 1 _ rfl).1
      have z2:=(C9.out 2 _ rfl).1
      have u0:=(Cm.out 0 _ rfl).1
      have u1:=(Cm.out 1 _ rfl).1
      have u2:=(Cm.out 2 _ rfl).1
      have hsz:=HSZ.out
      have hXs:=HBX.out.size
      have n1:nb ≠ ra:=by have:=h9sz.out;have:=hw5.out;omega
      have n2:nb ≠ rb:=by have:=h9sz.out;have:=hw5.out;omega
      have n3:mb ≠ ra:=by have:=HNM.out;have:=h9sz.out;have:=hw5.out;omega
      have n4:mb ≠ rb:=by have:=HNM.out;have:=h9sz.out;have:=hw5.out;omega
      have n5:sb ≠ ra:=by omega
      have n6:sb ≠ rb:=by omega
      have nab:ra ≠ rb:=by omega
      have ZA5:Hid (_ = _):=(HBX.out.block ra (by omega)).trans ZA.out
      have ZB5:Hid (_ = _):=(HBX.out.block rb (by omega)).trans ZB.out
      clear hsz hXs
      clear hmb Cmb CS
      go_upto_region 10 with fail
      refine RV.rs [.some (.agg #[.int .i64 fx,.int .i64 fy,.int .i64 fz]),.some (.agg #[.int .i64 tx,.int .i64 ty,.int .i64 tz]),.some (.pointer (some ⟨sb,6,none⟩)),.some (.int .i64 rr),.some (.int .i64 pr),.some (.int .i64 rN),.some (.slice oo K.length cc),none,none,.some (.int .i64 rN),.some (.slice oo K.length cc)] [84,85,86,87,88,89,90,0,0,5,6] [(1,.pointer (some ⟨sb,0,none⟩)),(2,.pointer (some ⟨ra,0,none⟩)),(3,.pointer (some ⟨rb,0,none⟩)),(6,.slice oo K.length cc),(9,.pointer (some ⟨nb,0,none⟩)),(10,.pointer (some ⟨mb,0,none⟩))] (fun γ L w=>RB w6 23 ra rb (if L 7 then #[.int .i64 fx,.int .i64 fy,.int .i64 fz] else #[.int .i64 0,.int .i64 0,.int .i64 0]) (if L 8 then #[.int .i64 tx,.int .i64 ty,.int .i64 tz] else #[.int .i64 0,.int .i64 0,.int .i64 0]) w) ⟨rfl,rfl,rfl,rfl,rfl,rfl,trivial⟩ ⟨rfl,rfl,rfl,Nat.le_refl _,fun k _ _ _=>rfl,ZA5.out,ZB5.out⟩ ?_ ?_
      ·intro D WA Z hD hWA hZ T
       simp only [RV.Outs,RV.Slots,Nat.reduceAdd] at T
       (refine RV.cc _ (RV.pu T (fun γ v L w hl h=>by rw [RV.mn (L:=L) (i:=_) (j:=7) (by decide),RV.mn (L:=L) (i:=_) (j:=8) (by decide)];exact h) (fun γ L a w hH hl h9 k9=>⟨_,?_,rfl⟩)) ?_;· have z09:=hH.glob.at z0 n1 n2;have z19:=hH.glob.at z1 n1 n2;have z29:=hH.glob.at z2 n1 n2;simp [execOp,go_sem,h9,z09,z19,z29])
       (refine RV.cc _ (RV.pu T (fun γ v L w hl h=>by rw [RV.mn (L:=L) (i:=_) (j:=7) (by decide),RV.mn (L:=L) (i:=_) (j:=8) (by decide)];exact h) (fun γ L a w hH hl h9 k9=>⟨_,?_,rfl⟩)) ?_;· have u09:=hH.glob.at u0 n3 n4;have u19:=hH.glob.at u1 n3 n4;have u29:=hH.glob.at u2 n3 n4;simp [execOp,go_sem,h9,u09,u19,u29])
       (refine RV.cc _ (RV.pu T (fun γ v L w hl h=>by rw [RV.mn (L:=L) (i:=_) (j:=7) (by decide),RV.mn (L:=L) (i:=_) (j:=8) (by decide)];exact h) (fun γ L a w hH hl h9 k9=>⟨_,?_,rfl⟩)) ?_;· simp [execOp,go_sem,h9])
       (refine RV.cc _ (RV.pu T (fun γ v L w hl h=>by rw [RV.mn (L:=L) (i:=_) (j:=7) (by decide),RV.mn (L:=L) (i:=_) (j:=8) (by decide)];exact h) (fun γ L a w hH hl h9 k9=>⟨_,?_,rfl⟩)) ?_;· have y69:=hH.glob.at y6 n5 n6;simp [Region.binds] at k9;simp [execOp,go_sem,h9,k9,y69])
       refine RV.cc _ (RV.dc (fun γ L a w hH hl hA=>by have h9:=T γ L a w hH;have k9:=hA;simp [Region.binds] at k9;exact ⟨_,_,by simp [go_sem,h9,k9],Calls.mono (HPK.out w) (by rintro e w2 ⟨rfl,hw⟩;subst hw;exact ⟨_,rfl,rfl,fun j v _ h=>h.keep _,by rw [RV.mn (L:=L) (i:=_) (j:=7) (by decide),RV.mn (L:=L) (i:=_) (j:=8) (by decide)];exact hH.glob⟩)⟩)) ?_
       (refine RV.cc _ (RV.pu T (fun γ v L w hl h=>by rw [RV.mn (L:=L) (i:=_) (j:=7) (by decide),RV.mn (L:=L) (i:=_) (j:=8) (by decide)];exact h) (fun γ L a w hH hl h9 k9=>⟨_,?_,rfl⟩)) ?_;· simp [Region.binds] at k9;simp [execOp,go_sem,h9,k9,w_r])
       (refine RV.cc _ (RV.pu T (fun γ v L w hl h=>by rw [RV.mn (L:=L) (i:=_) (j:=7) (by decide),RV.mn (L:=L) (i:=_) (j:=8) (by decide)];exact h) (fun γ L a w hH hl h9 k9=>⟨_,?_,rfl⟩)) ?_;· simp [execOp,go_sem,h9])
       refine RV.cc _ (RV.does_store (fun γ L a w hH hl hA=>by have h9:=T γ L a w hH;have k9:=hA;simp [Region.binds] at k9;have hG:=hH.glob;rw [hl] at hG;have hz:(#[.int .i64 0,.int .i64 0,.int .i64 0]:Array Value).size = (#[.int .i64 fx,.int .i64 fy,.int .i64 fz]:Array Value).size:=rfl;exact ⟨_,exec_store_all 23 _ _ rfl ra 0 #[.int .i64 fx,.int .i64 fy,.int .i64 fz] (by simp [Act.eval,h9]) (by simp [Act.eval,h9,k9]) (there_all hG.ha rfl) (by kernel_rfl) (by simp only [List.all_toArray,List.all_cons,List.all_nil,Value.oneCell',Bool.and_self]),trivial,fun j v _ h=>h.keep _,by rw [RV.mn (L:=L) (i:=7) (j:=8) (by decide),RV.more_self];exact hG.a nab #[.int .i64 fx,.int .i64 fy,.int .i64 fz] hz⟩)) ?_
       refine RV.cc _ (RV.does_store (fun γ L a w hH hl hA=>by have h9:=T γ L a w hH;have k9:=hA;simp [Region.binds] at k9;have hG:=hH.glob;rw [hl] at hG;have hz:(#[.int .i64 0,.int .i64 0,.int .i64 0]:Array Value).size = (#[.int .i64 tx,.int .i64 ty,.int .i64 tz]:Array Value).size:=rfl;exact ⟨_,exec_store_all 23 _ _ rfl rb 0 #[.int .i64 tx,.int .i64 ty,.int .i64 tz] (by simp [Act.eval,h9]) (by simp [Act.eval,h9,k9]) (there_all hG.hb rfl) (by kernel_rfl) (by simp only [List.all_toArray,List.all_cons,List.all_nil,Value.oneCell',Bool.and_self]),trivial,fun j v _ h=>h.keep _,by rw [RV.mn (L:=L) (i:=8) (j:=7) (by decide),RV.more_self];exact hG.b nab #[.int .i64 tx,.int .i64 ty,.int .i64 tz] hz⟩)) ?_
       (refine RV.cc _ (RV.pu T (fun γ v L w hl h=>by rw [RV.mn (L:=L) (i:=_) (j:=7) (by decide),RV.mn (L:=L) (i:=_) (j:=8) (by decide)];exact h) (fun γ L a w hH hl h9 k9=>⟨_,?_,rfl⟩)) ?_;· simp [Region.binds] at k9;simp [execOp,go_sem,h9,k9])
       (refine RV.cc _ (RV.pu T (fun γ v L w hl h=>by rw [RV.mn (L:=L) (i:=_) (j:=7) (by decide),RV.mn (L:=L) (i:=_) (j:=8) (by decide)];exact h) (fun γ L a w hH hl h9 k9=>⟨_,?_,rfl⟩)) ?_;· simp [Region.binds] at k9;simp [execOp,go_sem,h9,k9])
       exact RV.AllDo.nil
      ·intro γ w7 L9 hL hI9 hG9
       rw [hL 7 (by decide),hL 8 (by decide)] at hG9
       have hG:RB w6 23 ra rb #[.int .i64 fx,.int .i64 fy,.int .i64 fz] #[.int .i64 tx,.int .i64 ty,.int .i64 tz] w7:=hG9
       simp only [RV.putL,Act.put,List.setIfInBounds_toArray,List.set_cons_zero,List.set_cons_succ]
       have hsz:=HSZ.out
       have HKF:Hid (LK w0.heap.size w7 (.slice oo K.length cc) K):=(HK.out.kept fun b h1 h2=>hG.keep b h2 (by omega) (by omega)).mono (by omega)
       have HBF:Hid (Below w0.heap.size w0 w7):=hG.below (b_step HB.out HBX.out) (by omega) (by omega)
       have r0:=(cw_all hG.ha 0 _ rfl).1
       have r1:=(cw_all hG.ha 1 _ rfl).1
       have r2:=(cw_all hG.ha 2 _ rfl).1
       have q0:=(cw_all hG.hb 0 _ rfl).1
       have q1:=(cw_all hG.hb 1 _ rfl).1
       have q2:=(cw_all hG.hb 2 _ rfl).1
       clear hG9 hG hL hI9 hsz HBX HK HB HSZ y6 z0 z1 z2 u0 u1 u2 n1 n2 n3 n4 n5 n6 nab ZA5 ZB5 C9 Cm
       go_wp2_with (fail)
       exact bodyPost_ret (v:=.tuple #[.agg #[.int .i64 fx,.int .i64 fy,.int .i64 fz],.agg #[.int .i64 tx,.int .i64 ty,.int .i64 tz],.int .i64 rN,.slice oo K.length cc]) (by simp [results,Tryz.results12,go_sem,r0,r1,r2,q0,q1,q2];try rfl) rfl ⟨⟨fx,fy,fz⟩,⟨tx,ty,tz⟩,rN,.slice oo K.length cc,rfl,K,HKF,HOK.out,by omega,HIN.out.1,HIN.out.2.1,HIN.out.2.2,HBF.out⟩
end
end Go.Proofs.YtablgiflakncfaaGreat
