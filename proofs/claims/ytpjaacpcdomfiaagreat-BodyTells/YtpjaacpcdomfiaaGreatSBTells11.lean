/- Points of one plane: package shape's test. -/
import Derived.Test.YtpjaacpcdomfiaaGreatSBTells0
import Derived.Test.YtpjaacpcdomfiaaGreatSBTells10
import Derived.Lib.BufferMore
import Derived.OneCell
set_option maxHeartbeats 2000000
set_option maxRecDepth 100000
set_option linter.unusedVariables false
namespace Go.Proofs.YtpjaacpcdomfiaaGreat
section
open Go.RowKit Go.Shelf
theorem flat_any (v:Value) (Ls:List Pt) (w0:World) (hv:Lies w0 v Ls) (h4:4 <= Ls.length) (h12:Ls.length <= 12) (hin:∀ p ∈ Ls,p.inB 65536 = true) :
  Calls Tryz.prog 95 #[v] w0 fun e W=>e = .returned (.bool (flatP Ls))/\Below w0.heap.size w0 W:=by
 obtain ⟨o,c,rfl,hlc,hcm,hcell⟩:=hv.form
 have HC:Hid _:=hcell
 have HIN:Hid _:=hin
 obtain ⟨g,off,rfl,x0,x1,x2⟩:=hcell 0 (by omega)
 obtain ⟨g',off',e',y0,y1,y2⟩:=hcell 1 (by omega)
 simp only [Option.some.injEq,Addr.mk.injEq,and_true] at e'
 obtain ⟨rfl,rfl⟩:=e'
 clear hcell hv hin
 simp only [Nat.zero_mul,Nat.add_zero,Nat.one_mul] at x0 x1 x2 y0 y1 y2
 have hgl:g < w0.heap.size:=World.block_lt_of_cell? _ _ x0
 have hl0:0 < Ls.length:=by omega
 have hl1:1 < Ls.length:=by omega
 have hain:(pt Ls 0).inB 65536 = true:=HIN.out _ (pt_mem hl0)
 have hbin:(pt Ls 1).inB 65536 = true:=HIN.out _ (pt_mem hl1)
 obtain ⟨R,hR⟩:∃ R,flatP Ls = R:=⟨_,rfl⟩
 rw [hR]
 have HR:Hid (Ls.all (fun c=>Ls.all fun m=>decide (vol (pt Ls 0) (pt Ls 1) c m = 0)) = R):=hR
 clear hR
 generalize pt Ls 0 = pa at *
 generalize pt Ls 1 = pb at *
 go_enter Tryz.func95,Tryz.ntmps95
 go_upto_region 1 with fail
 go_cut [3,4] from 10 (fun s3 s4 wc=>∃ ba bb,s3 = .pointer (some ⟨ba,0,none⟩)/\s4 = .pointer (some ⟨bb,0,none⟩)/\Hid (Box3 wc ba pa)/\Hid (Box3 wc bb pb)/\Hid (Below w0.heap.size w0 wc))
 case first =>
  go_region
  ·go_wp2_with (fail)
   go_meet
   case rel=>exact ⟨_,_,rfl,rfl,(Box3.new w0 pa.x pa.y pa.z _).step ((n_after _ _).drew),(by have:=Box3.new (w0.alloc (.cells #[.int .i64 pa.x,.int .i64 pa.y,.int .i64 pa.z] 30)) pb.x pb.y pb.z 30;rw [World.size_alloc] at this;exact this.step (Below.refl _ _).drew),(b_step (n_after w0 _) (n_after _ _)).drew⟩
  ·go_wp2_with (fail)
   go_meet
   case rel=>exact ⟨_,_,rfl,rfl,(by have:=Box3.new (w0.alloc (.cells #[.int .i64 pb.x,.int .i64 pb.y,.int .i64 pb.z] 30)) pa.x pa.y pa.z 30;rw [World.size_alloc] at this;exact this.step (Below.refl _ _).drew),(Box3.new w0 pb.x pb.y pb.z _).step ((n_after _ _).drew),(b_step (n_after w0 _) (n_after _ _)).drew⟩
 case rest =>
  obtain ⟨ba,bb,rfl,rfl,BA,BB,HB⟩:=hcut
  clear x0 x1 x2 y0 y1 y2
  go_wp2_with (fail)
  go_loopg [18] Ls.length (fun gm i wr=>∃ k:Nat,i = .int .i64 (k:Int)/\k <= Ls.length/\gm = Ls.length - k/\Hid ((Ls.take k).all (fun c=>Ls.all fun m=>decide (vol pa pb c m = 0)) = true)/\Hid (Below wc.heap.size wc wr))
  case atStart=>exact ⟨0,rfl,Nat.zero_le _,rfl,rfl,Below.refl _ _⟩
  case round =>
   obtain ⟨k,rfl,hk,hgm,HA,HBr⟩:=hrel
   have HG1:Hid _:=hgm
   clear hgm
   by_cases hlt:k < Ls.length
   ·obtain ⟨g',off',e',x0,x1,x2⟩:=HC.out k hlt
    simp only [Option.some.injEq,Addr.mk.injEq,and_true] at e'
    obtain ⟨rfl,rfl⟩:=e'
    have x0:=c_after (b_step HB.out HBr.out) x0
    have x1:=c_after (b_step HB.out HBr.out) x1
    have x2:=c_after (b_step HB.out HBr.out) x2
    have hcin:=HIN.out _ (pt_mem hlt)
    have HS1:Hid _:=all_snoc Ls (fun c=>Ls.all fun m=>decide (vol pa pb c m = 0)) k hlt
    have HM:Hid ((Ls.all fun m=>decide (vol pa pb (pt Ls k) m = 0)) = false->R = false):=fun h=>by
     rw [<- HR.out,List.all_eq_false]
     exact ⟨_,pt_mem hlt,by rw [h];decide⟩
    generalize pt Ls k = pc at *
    go_upto_region 5 with fail
    obtain ⟨V,hV⟩:∃ V:World,V = wr.alloc (.cells #[.int .i64 pc.x,.int .i64 pc.y,.int .i64 pc.z] 30):=⟨_,rfl⟩
    obtain ⟨bc,hbc⟩:∃ bc,bc = wr.heap.size:=⟨_,rfl⟩
    have BC:Hid (Box3 (wr.alloc (.cells #[.int .i64 pc.x,.int .i64 pc.y,.int .i64 pc.z] 30)) wr.heap.size pc):=Box3.new wr pc.x pc.y pc.z _
    have HBV:Hid (Below wc.heap.size wc V):=by rw [hV];exact b_step HBr.out (n_after _ _)
    rw [<- hV,<- hbc] at BC ⊢
    clear hV hbc x0 x1 x2
    obtain ⟨p0,p1,p2,_,_,_⟩:=BA.out.step HBV.out
    obtain ⟨q0,q1,q2,_,_,_⟩:=BB.out.step HBV.out
    obtain ⟨s0,s1,s2,_,_,_⟩:=BC.out
    go_wp2_with (fail)
    refine Calls.mono (across_any pa pb pc _ hain hbin hcin) ?_
    rintro e W4 ⟨rfl,hb4⟩
    have HB4:Hid _:=b_step HBV.out hb4
    clear hb4 p0 p1 p2 q0 q1 q2 s0 s1 s2
    have hnin:=cross_in (sub_in hbin hain) (sub_in hcin hain)
    have HVO:Hid (∀ m,vol pa pb pc m = ((pb.sub pa).cross (pc.sub pa)).dot (m.sub pa)):=fun m=>rfl
    generalize (pb.sub pa).cross (pc.sub pa) = n at *
    unfold Pt.v
    go_upto_region 6 with fail
    obtain ⟨W5,hW5⟩:∃ W5:World,W5 = W4.alloc (.cells #[.int .i64 n.x,.int .i64 n.y,.int .i64 n.z] 30):=⟨_,rfl⟩
    obtain ⟨bn,hbn⟩:∃ bn,bn = W4.heap.size:=⟨_,rfl⟩
    have BN:Hid (Box3 (W4.alloc (.cells #[.int .i64 n.x,.int .i64 n.y,.int .i64 n.z] 30)) W4.heap.size n):=Box3.new W4 n.x n.y n.z _
    have HB5:Hid (Below wc.heap.size wc W5):=by rw [hW5];exact b_step HB4.out (n_after _ _)
    rw [<- hW5,<- hbn] at BN ⊢
    clear hW5 hbn
    have BA2:Hid _:=BA.out.step HB5.out
    go_wp2_with (fail)
    go_loopg [28] Ls.length (fun gm i wx=>∃ q:Nat,i = .int .i64 (q:Int)/\q <= Ls.length/\gm = Ls.length - q/\Hid (((Ls.take q).all fun m=>decide (vol pa pb pc m = 0)) = true)/\Hid (Below W5.heap.size W5 wx))
    case atStart=>exact ⟨0,rfl,Nat.zero_le _,rfl,rfl,Below.refl _ _⟩
    case round =>
     obtain ⟨q,rfl,hq,hgm,HA2,HBq⟩:=hrel
     have HG2:Hid _:=hgm
     clear hgm
     by_cases hqt:q < Ls.length
     ·obtain ⟨g',off',e',x0,x1,x2⟩:=HC.out q hqt
      simp only [Option.some.injEq,Addr.mk.injEq,and_true] at e'
      obtain ⟨rfl,rfl⟩:=e'
      have x0:=c_after (b_step (b_step HB.out HB5.out) HBq.out) x0
      have x1:=c_after (b_step (b_step HB.out HB5.out) HBq.out) x1
      have x2:=c_after (b_step (b_step HB.out HB5.out) HBq.out) x2
      have hmin:=HIN.out _ (pt_mem hqt)
      have HS2:Hid _:=all_snoc Ls (fun m=>decide (vol pa pb pc m = 0)) q hqt
      have HM2:Hid (¬ vol pa pb pc (pt Ls q) = 0->R = false):=fun h=>HM.out (by
       rw [List.all_eq_false]
       exact ⟨_,pt_mem hqt,by simpa using h⟩)
      rw [HVO.out] at HM2
      generalize hpm:pt Ls q = m at *
      have HPM:Hid _:=hpm
      clear hpm
      go_upto_region 9 with fail
      obtain ⟨W6,hW6⟩:∃ W6:World,W6 = wr.alloc (.cells #[.int .i64 m.x,.int .i64 m.y,.int .i64 m.z] 30):=⟨_,rfl⟩
      obtain ⟨bm,hbm⟩:∃ bm,bm = wr.heap.size:=⟨_,rfl⟩
      have BM:Hid (Box3 (wr.alloc (.cells #[.int .i64 m.x,.int .i64 m.y,.int .i64 m.z] 30)) wr.heap.size m):=Box3.new wr m.x m.y m.z _
      have HB6:Hid (Below W5.heap.size W5 W6):=by rw [hW6];exact b_step HBq.out (n_after _ _)
      rw [<- hW6,<- hbm] at BM ⊢
      clear hW6 hbm x0 x1 x2
      have L1:Hid _:=fun w'=>less_any m pa w' (inB_mono hmin (by decide)) (inB_mono hain (by decide))
      have L2:Hid _:=fun w'=>dot_any n (m.sub pa) w' hnin (sub_in hmin hain)
      unfold Pt.v at L1 L2
      obtain ⟨p0,p1,p2,_,_,_⟩:=BA2.out.step HB6.out
      obtain ⟨q0,q1,q2,_,_,_⟩:=BN.out.step HB6.out
      obtain ⟨s0,s1,s2,_,_,_⟩:=BM.out
      have HVM:Hid (vol pa pb pc m = n.dot (m.sub pa)):=HVO.out m
      refine RV.rs [.some (.agg #[.int .i64 n.x,.int .i64 n.y,.int .i64 n.z]),.some (.agg #[.int .i64 m.x,.int .i64 m.y,.int .i64 m.z]),.some (.agg #[.int .i64 pa.x,.int .i64 pa.y,.int .i64 pa.z]),.some (.agg #[.int .i64 ((m.sub pa).x),.int .i64 ((m.sub pa).y),.int .i64 ((m.sub pa).z)]),.some (.int .i64 (n.dot (m.sub pa))),.some (.bool (n.dot (m.sub pa) != 0))] [33,34,35,36,37,38] [(3,.pointer (some ⟨ba,0,none⟩)),(7,.pointer (some ⟨bn,0,none⟩)),(9,.pointer (some ⟨bm,0,none⟩))] (fun γ L w9=>Below W6.heap.size W6 w9) ⟨rfl,rfl,rfl,trivial⟩ ?_ ?_ ?_
      ·exact (Below.refl _ W6).drew
      ·intro D WA Z hD hWA hZ T
       simp only [RV.Outs,RV.Slots,Nat.reduceAdd] at T
       iterate 3 (refine RV.cc _ (RV.pu T (fun γ v L w hl h=>h) (fun γ L a w hH hl h9 k9=>⟨_,?_,rfl⟩)) ?_;· have hB9:=hH.glob;have q0:=c_after hB9 q0;have q1:=c_after hB9 q1;have q2:=c_after hB9 q2;have q3:=c_after hB9 s0;have q4:=c_after hB9 s1;have q5:=c_after hB9 s2;have q6:=c_after hB9 p0;have q7:=c_after hB9 p1;have q8:=c_after hB9 p2;simp [execOp,go_sem,h9,q0,q1,q2,q3,q4,q5,q6,q7,q8])
       refine RV.cc _ (RV.dc (fun γ L a w hH hl hA=>by have h9:=T γ L a w hH;have k9:=hA;simp [Region.binds] at k9;have hB9:=hH.glob;exact ⟨137,#[.agg #[.int .i64 m.x,.int .i64 m.y,.int .i64 m.z],.agg #[.int .i64 pa.x,.int .i64 pa.y,.int .i64 pa.z]],by simp [go_sem,h9,k9],Calls.mono (L1.out w) (by rintro e w2 ⟨rfl,hb⟩;exact ⟨_,rfl,rfl,fun j v _ h=>h.keep _,hB9.trans (hb.mono hB9.size)⟩)⟩)) ?_
       refine RV.cc _ (RV.dc (fun γ L a w hH hl hA=>by have h9:=T γ L a w hH;have k9:=hA;simp [Region.binds] at k9;have hB9:=hH.glob;exact ⟨136,#[.agg #[.int .i64 n.x,.int .i64 n.y,.int .i64 n.z],.agg #[.int .i64 ((m.sub pa).x),.int .i64 ((m.sub pa).y),.int .i64 ((m.sub pa).z)]],by simp [go_sem,h9,k9],Calls.mono (L2.out w) (by rintro e w2 ⟨rfl,hb⟩;exact ⟨_,rfl,rfl,fun j v _ h=>h.keep _,hB9.trans (hb.mono hB9.size)⟩)⟩)) ?_
       (refine RV.cc _ (RV.pu T (fun γ v L w hl h=>h) (fun γ L a w hH hl h9 k9=>⟨_,?_,rfl⟩)) ?_;· simp [Region.binds] at k9;simp [execOp,go_sem,h9,k9])
       exact RV.AllDo.nil
      ·intro γ w5 L9 hL hI9 hG9
       have hb8:=hG9
       clear hL hI9 hG9
       simp only [RV.putL,Act.put,List.setIfInBounds_toArray,List.set_cons_zero,List.set_cons_succ]
       have HB7:Hid _:=HB6.out.trans (hb8.mono HB6.out.size)
       clear hb8 L1 L2 p0 p1 p2 q0 q1 q2 s0 s1 s2
       generalize n.dot (m.sub pa) = dd at *
       by_cases hd:dd = 0
       ·subst hd
        have HS2:Hid (((Ls.take (q + 1)).all fun m=>decide (vol pa pb pc m = 0)) = true):=by show _ = _;rw [HS2.out,HA2.out];simp [HVM.out]
        clear HVM HM2
        go_wp2_with (fail)
        go_roundg (Ls.length - (q + 1))
        case measure=>have:=HG2.out;omega
        case rel=>exact ⟨q + 1,by go_num,by omega,rfl,HS2,HB7⟩
       ·have e:R = false:=HM2.out hd
        subst e
        have hd2:(dd != 0) = true:=bne_iff_ne.2 hd
        go_wp2_with (fail)
        go_ret
        exact ⟨rfl,b_step (b_step HB.out HB5.out) HB7.out⟩
     ·have e2:(Ls.all fun m=>decide (vol pa pb pc m = 0)) = true:=by
       have:=HA2.out
       rwa [List.take_of_length_le (by omega:Ls.length <= q)] at this
      have HS1:Hid ((Ls.take (k + 1)).all (fun c=>Ls.all fun m=>decide (vol pa pb c m = 0)) = true):=by show _ = _;rw [HS1.out,HA.out,e2];rfl
      clear e2
      go_wp2_with (fail)
      go_roundg (Ls.length - (k + 1))
      case measure=>have:=HG1.out;omega
      case rel=>exact ⟨k + 1,by go_num,by omega,rfl,HS1,b_step HB5.out HBq.out⟩
   ·have e:R = true:=by
     rw [<- HR.out]
     have:=HA.out
     rwa [List.take_of_length_le (by omega:Ls.length <= k)] at this
    subst e
    go_wp2_with (fail)
    go_ret
    exact ⟨rfl,b_step HB.out HBr.out⟩
end
section
open Go.RowKit Go.Shelf
structure Sh where
 kind:Int
 radius:Int
 half:Pt
 pts:List Pt
def Sh.v (s:Sh) (pv:Value):Value:=.agg #[.int .i64 s.kind,.int .i64 s.radius,.int .i64 s.half.x,.int .i64 s.half.y,.int .i64 s.half.z,pv]
def inR (n a b:Int):Bool:=decide (a <= n/\n <= b)
def formP (s:Sh):Bool:=
 if s.kind = 1 then inR s.radius 1 16384
 else if s.kind = 2 then inR s.radius 1 16384 && halfOk s.half.x
 else if s.kind = 3 then inR s.radius 0 16384 && (halfOk s.half.x && (halfOk s.half.y && halfOk s.half.z))
 else if s.kind = 4 then inR s.radius 0 16384 && mayP s.pts
 else false
def checkP (s:Sh):Int:=if formP s then (if s.kind = 4/\flatP s.pts = true then 51 else 0) else 50
theorem between_is (n a b:Int) (w:World) (t:Bool) (h:inR n a b = t) :
  Calls Tryz.prog 132 #[.int .i64 n,.int .i64 a,.int .i64 b] w fun e w'=>e = .returned (.bool t)/\w' = w:=by
 subst h;exact between_any n a b w
theorem halves1 (n:Int) (w:World):Calls Tryz.prog 133 #[.slice (some ⟨w.heap.size,0,none⟩) 1 1] (w.alloc (.cells #[.int .i64 n] 3)) fun e W=>e = .returned (.bool (halfOk n))/\W = w.alloc (.cells #[.int .i64 n] 3):=by
 have h:=halves_any [n] w.heap.size (w.alloc (.cells #[.int .i64 n] 3)) (fun i hi=>by
  match i,hi with
  | 0,_=>simp) (by simp)
 simpa using h
theorem halves3 (x y z:Int) (w:World):Calls Tryz.prog 133 #[.slice (some ⟨w.heap.size,0,none⟩) 3 3] (w.alloc (.cells #[.int .i64 x,.int .i64 y,.int .i64 z] 3)) fun e W=>e = .returned (.bool (halfOk x && (halfOk y && halfOk z)))/\W = w.alloc (.cells #[.int .i64 x,.int .i64 y,.int .i64 z] 3):=by
 have h:=halves_any [x,y,z] w.heap.size (w.alloc (.cells #[.int .i64 x,.int .i64 y,.int .i64 z] 3)) (fun i hi=>by
  match i,hi with
  | 0,_=>simp
  | 1,_=>simp
  | 2,_=>simp) (by simp)
 simpa using h
theorem formed_any (s:Sh) (pv:Value) (w:World) (hv:Lies w pv s.pts) :
  Calls Tryz.prog 94 #[s.v pv] w fun e W=>e = .returned (.bool (formP s))/\Below w.heap.size w W:=by
 obtain ⟨k,r,⟨hx,hy,hz⟩,L⟩:=s
 have HF:Hid (formP ⟨k,r,⟨hx,hy,hz⟩,L⟩ = if k = 1 then inR r 1 16384 else if k = 2 then inR r 1 16384 && halfOk hx else if k = 3 then inR r 0 16384 && (halfOk hx && (halfOk hy && halfOk hz)) else if k = 4 then inR r 0 16384 && mayP L else false):=rfl
 generalize formP ⟨k,r,⟨hx,hy,hz⟩,L⟩ = F at *
 have hB:Hid (Below w.heap.size w (w.alloc (.cells #[.int .i64 k,.int .i64 r,.int .i64 hx,.int .i64 hy,.int .i64 hz,pv] 33))):=n_after w _
 have HP:Hid _:=pointsMayBe_any pv L (w.alloc (.cells #[.int .i64 k,.int .i64 r,.int .i64 hx,.int .i64 hy,.int .i64 hz,pv] 33)) (hv.below (n_after w _))
 have H1:Hid _:=halves1 hx (w.alloc (.cells #[.int .i64 k,.int .i64 r,.int .i64 hx,.int .i64 hy,.int .i64 hz,pv] 33))
 have H3:Hid _:=halves3 hx hy hz (w.alloc (.cells #[.int .i64 k,.int .i64 r,.int .i64 hx,.int .i64 hy,.int .i64 hz,pv] 33))
 obtain ⟨o,c,rfl,hlc,hcm,_⟩:=hv.form
 dsimp only at hlc hcm HP H1 H3 hB ⊢
 clear hv
 rw [World.size_alloc] at H1 H3
 unfold Sh.v
 dsimp only
 by_cases k1:k = 1
 ·subst k1
  have e:F = inR r 1 16384:=HF.out
  subst e
  generalize hb:inR r 1 16384 = t
  go_enter Tryz.func94,Tryz.ntmps94
  go_wp2_with (go_at_call 132;refine (between_is _ _ _ _ t hb).mono ?_;rintro e w' ⟨rfl,rfl⟩)
  go_ret
  exact ⟨rfl,hB.out⟩
 by_cases k2:k = 2
 ·subst k2
  have e:F = (inR r 1 16384 && halfOk hx):=HF.out
  cases hb:inR r 1 16384 with
  | false =>
   rw [hb] at e
   subst e
   go_enter Tryz.func94,Tryz.ntmps94
   go_wp2_with (go_at_call 132;refine (between_is _ _ _ _ false hb).mono ?_;rintro e w' ⟨rfl,rfl⟩)
   go_ret
   exact ⟨rfl,hB.out⟩
  | true =>
   rw [hb] at e
   subst e
   generalize halfOk hx = t at *
   go_enter Tryz.func94,Tryz.ntmps94
   go_wp2_with (first | (go_at_call 132;refine (between_is _ _ _ _ true hb).mono ?_;rintro e w' ⟨rfl,rfl⟩) | (go_at_call 133;refine Calls.mono H1.out ?_;rintro e w' ⟨rfl,rfl⟩))
   go_ret
   exact ⟨by simp,b_step hB.out (n_after _ _)⟩
 by_cases k3:k = 3
 ·subst k3
  have e:F = (inR r 0 16384 && (halfOk hx && (halfOk hy && halfOk hz))):=HF.out
  cases hb:inR r 0 16384 with
  | false =>
   rw [hb] at e
   subst e
   go_enter Tryz.func94,Tryz.ntmps94
   go_wp2_with (go_at_call 132;refine (between_is _ _ _ _ false hb).mono ?_;rintro e w' ⟨rfl,rfl⟩)
   go_ret
   exact ⟨rfl,hB.out⟩
  | true =>
   rw [hb] at e
   generalize (halfOk hx && (halfOk hy && halfOk hz)) = t at *
   subst e
   go_enter Tryz.func94,Tryz.ntmps94
   go_wp2_with (first | (go_at_call 132;refine (between_is _ _ _ _ true hb).mono ?_;rintro e w' ⟨rfl,rfl⟩) | (go_at_call 133;refine Calls.mono H3.out ?_;rintro e w' ⟨rfl,rfl⟩))
   go_ret
   exact ⟨by simp,b_step hB.out (n_after _ _)⟩
 by_cases k4:k = 4
 ·subst k4
  have e:F = (inR r 0 16384 && mayP L):=HF.out
  cases hb:inR r 0 16384 with
  | false =>
   rw [hb] at e
   subst e
   go_enter Tryz.func94,Tryz.ntmps94
   go_wp2_with (go_at_call 132;refine (between_is _ _ _ _ false hb).mono ?_;rintro e w' ⟨rfl,rfl⟩)
   go_ret
   exact ⟨rfl,hB.out⟩
  | true =>
   rw [hb] at e
   generalize mayP L = t at *
   subst e
   go_enter Tryz.func94,Tryz.ntmps94
   go_wp2_with (first | (go_at_call 132;refine (between_is _ _ _ _ true hb).mono ?_;rintro e w' ⟨rfl,rfl⟩) | (go_at_call 134;refine Calls.mono HP.out ?_;rintro e V ⟨rfl,hb2⟩))
   go_ret
   exact ⟨by simp,b_step hB.out hb2⟩
 ·have e:F = false:=by rw [HF.out,if_neg k1,if_neg k2,if_neg k3,if_neg k4]
  subst e
  go_enter Tryz.func94,Tryz.ntmps94
  go_wp2
  go_ret
  exact ⟨rfl,hB.out⟩
theorem may_parts {L:List Pt} (h:mayP L = true):4 <= L.length/\L.length <= 12/\(∀ p ∈ L,p.inB 65536 = true)/\L.Nodup:=by
 unfold mayP at h
 simp only [Bool.and_eq_true,decide_eq_true_eq,List.all_eq_true] at h
 exact ⟨h.1.1,h.1.2,h.2.1,h.2.2⟩
theorem form_hull {s:Sh} (h:formP s = true) (k:s.kind = 4):mayP s.pts = true:=by
 unfold formP at h
 rw [if_neg (by omega),if_neg (by omega),if_neg (by omega),if_pos k,Bool.and_eq_true] at h
 exact h.2
theorem check_any (s:Sh) (pv:Value) (w:World) (hv:Lies w pv s.pts) :
  Calls Tryz.prog 43 #[s.v pv] w fun e W=>e = .returned (.int .i64 (checkP s))/\Below w.heap.size w W:=by
 have hB:Hid (Below w.heap.size w (w.alloc (.cells #[.int .i64 s.kind,.int .i64 s.radius,.int .i64 s.half.x,.int .i64 s.half.y,.int .i64 s.half.z,pv] 33))):=n_after w _
 have HF:Hid _:=formed_any s pv (w.alloc (.cells #[.int .i64 s.kind,.int .i64 s.radius,.int .i64 s.half.x,.int .i64 s.half.y,.int .i64 s.half.z,pv] 33)) (hv.below hB.out)
 have HC:Hid (checkP s = if formP s then (if s.kind = 4/\flatP s.pts = true then 51 else 0) else 50):=rfl
 have HM:Hid (formP s = true->s.kind = 4->mayP s.pts = true):=fun a b=>form_hull a b
 generalize checkP s = C at *
 have HV:Hid _:=hv
 obtain ⟨o,c,rfl,hlc,hcm,_⟩:=hv.form
 clear hv
 generalize formP s = F at *
 obtain ⟨k,r,⟨hx,hy,hz⟩,L⟩:=s
 unfold Sh.v at *
 dsimp only at *
 cases F with
 | false =>
  have e:C = 50:=HC.out
  subst e
  go_enter Tryz.func43,Tryz.ntmps43
  go_wp2_with (go_at_call 94;refine Calls.mono HF.out ?_;rintro e V ⟨rfl,hb⟩)
  go_ret
  exact ⟨rfl,b_step hB.out hb⟩
 | true =>
  have c0:(w.alloc (.cells #[.int .i64 k,.int .i64 r,.int .i64 hx,.int .i64 hy,.int .i64 hz,.slice o L.length c] 33)).cell? ⟨w.heap.size,0,none⟩ = some (.int .i64 k):=by simp
  have c5:(w.alloc (.cells #[.int .i64 k,.int .i64 r,.int .i64 hx,.int .i64 hy,.int .i64 hz,.slice o L.length c] 33)).cell? ⟨w.heap.size,5,none⟩ = some (.slice o L.length c):=by simp
  by_cases k4:k = 4
  ·subst k4
   obtain ⟨m1,m2,m3,m4⟩:=may_parts (HM.out rfl rfl)
   have m3:Hid _:=m3
   have HC:Hid (C = if flatP L = true then 51 else 0):=by show _ = _;rw [HC.out];simp
   go_enter Tryz.func43,Tryz.ntmps43
   go_wp2_with (fail)
   refine Calls.mono HF.out ?_
   clear HF
   rintro e V ⟨rfl,hb⟩
   have d0:=c_after hb c0
   have d5:=c_after hb c5
   have hB2:Hid _:=b_step hB.out hb
   clear hb c0 c5
   go_wp2_with (fail)
   refine Calls.mono (flat_any _ L V (HV.out.below hB2.out) m1 m2 m3.out) ?_
   rintro e V2 ⟨rfl,hb⟩
   clear d0 d5
   generalize flatP L = fl at *
   cases fl with
   | true =>
    have e:C = 51:=HC.out
    subst e
    go_wp2_with (fail)
    go_ret
    exact ⟨rfl,b_step hB2.out hb⟩
   | false =>
    have e:C = 0:=HC.out
    subst e
    go_wp2_with (fail)
    go_ret
    exact ⟨rfl,b_step hB2.out hb⟩
  ·have e:C = 0:=by rw [HC.out,if_pos rfl,if_neg (fun h=>k4 h.1)]
   subst e
   go_enter Tryz.func43,Tryz.ntmps43
   go_wp2_with (fail)
   refine Calls.mono HF.out ?_
   clear HF
   rintro e V ⟨rfl,hb⟩
   have d0:=c_after hb c0
   have hB2:Hid _:=b_step hB.out hb
   clear hb c0 c5
   go_wp2_with (fail)
   go_ret
   exact ⟨rfl,hB2.out⟩
end
section
open Go.RowKit Go.Shelf Fx
theorem cloneA_any (v:Value) (L:List Pt) (w:World) (hv:Lies w v L) (hl:L.length <= 100000) :
  Calls Tryz.prog 114 #[v] w fun e W=>∃ u,e = .returned u/\Row w W u L:=by
 obtain ⟨i0,hii,hiz,hisz,hib⟩:=info_parts point_info
 have HI:Hid _:=And.intro hii (And.intro hiz (And.intro hisz hib))
 clear hii hiz hisz hib
 obtain ⟨o,cp,rfl,hlc,hcm,hx⟩:=hv.cells
 cases o with
 | none =>
  have h0:L = []:=hx.resolve_right (by rintro ⟨g,off,e,_⟩;cases e)
  subst h0
  have hnil:∀ W,(binOp .eql 31 (.slice none 0 cp) (.slice none 0 0)).run Tryz.prog W = .ok (.bool true) W:=fun W=>Lib.run_eql_slice_nil_nil W _ _ Tryz.underlying31
  clear hv hx HI
  go_enter Tryz.func114,Tryz.ntmps114
  go_wp2
  go_ret
  exact ⟨_,rfl,Row.start w⟩
 | some ad =>
  have HC:Hid (∀ j u,(fl3 L)[j]? = some u->(w.alloc (.cells #[] 30)).cell? (ad.add j) = some u):=fun j u hj=>by
   rcases hx with h0 | ⟨g,off,e,hcell⟩
   ·subst h0;simp [fl3] at hj
   ·cases e
    have ad:(⟨g,off,none⟩:Addr).add j = ⟨g,off + j,none⟩:=by unfold Addr.add;split <;> simp_all
    rw [ad];exact c_after (n_after w _) (hcell j u hj)
  have HCL:Hid _:=fl3_length L
  clear hv hx
  have hnil:∀ W,(binOp .eql 31 (.slice (some ad) L.length cp) (.slice none 0 0)).run Tryz.prog W = .ok (.bool false) W:=fun W=>Lib.run_eql_slice_some_nil W _ _ _ Tryz.underlying31
  go_enter Tryz.func114,Tryz.ntmps114
  go_wp2_with (at_builtin;refine wpList_append_own _ rfl _ _ 31 rfl w.heap.size 30 i0 _ 3 24 Tryz.underlying31 HI.out.1 HI.out.2.1 HI.out.2.2.1 HI.out.2.2.2 rfl (by decide) _ 0 [] rfl (World.ownsRow_lit (e:=30) (size:=3) w #[] 0 (Nat.le_refl _) (by unfold maxLen;omega) rfl) ad L.length cp (fl3 L) rfl HCL.out HC.out (fl3_one L) (by unfold maxLen;omega) (by omega) (by simp) ?_;intro u9 V2 r8 g8 _)
  go_ret
  rw [Nat.zero_add,List.nil_append] at r8
  exact ⟨_,rfl,r8,((Below.refl _ w).alloc (Nat.le_refl _) _).grown g8 (by simp) (fun k e=>by cases e;exact Nat.le_refl _)⟩
theorem results_cell {P:Program} {fn:Func} {tmps:Array Value} {w:World} {v:Value} (a:Nat) (t:TypeId) (hr:fn.results = #[.cell a t]) (p:Addr) (ha:tmps[a]?.getD undef = .pointer (some p)) (h:(loadVar t p).run P w = .ok v w):(results fn tmps).run P w = .ok v w:=by
 unfold results
 rw [hr]
 simp [ha,asAddr,h]
theorem results_two {P:Program} {fn:Func} {tmps:Array Value} {w:World} {v u:Value} (a c:Nat) (t s:TypeId) (hr:fn.results = #[.cell a t,.cell c s]) (p q:Addr) (ha:tmps[a]?.getD undef = .pointer (some p)) (hc:tmps[c]?.getD undef = .pointer (some q)) (h:(loadVar t p).run P w = .ok v w) (k:(loadVar s q).run P w = .ok u w):(results fn tmps).run P w = .ok (.tuple #[v,u]) w:=by
 unfold results
 rw [hr]
 simp [Sem.run_bind,ha,hc,asAddr,h,k]
theorem CW.apart {W:World} {b k:Nat} {vs us:List Value} (h:CW W b vs) (hne:b ≠ k):CW (W.setCells k 0 us) b vs:=fun i v e=>by
 obtain ⟨h1,h2⟩:=h i v e
 exact ⟨(World.cell?_setCells_out _ _ _ _ _ (fun e=>absurd e hne)).trans h1,(World.frozen?_setCells _ _ _ _ _).trans h2⟩
theorem own_sets {w:World} {base:Nat} {t:TypeId} {sz m:Nat} {v:Value} {xs:List Value} {b:Nat} (h:w.ownsRow base t sz v m xs) (hne:v.ownBlock ≠ some b):∀ (vs:List Value) (o:Nat),(w.setCells b o vs).ownsRow base t sz v m xs:=by
 intro vs
 induction vs generalizing w with
 | nil=>intro o;exact h
 | cons x r ih=>intro o;exact ih (ownsRow_setCell_other h hne x) (o + 1)
theorem sets_size (b:Nat):∀ (vs:List Value) (o:Nat) (w:World),(w.setCells b o vs).heap.size = w.heap.size
 | [],_,_=>rfl
 | v :: r,o,w=>by rw [World.setCells,sets_size b r];simp [World.setCell]
theorem below_sets {B g:Nat} (hg:B <= g):∀ (vs:List Value) (o:Nat) (w:World),Below B w (w.setCells g o vs)
 | [],_,w=>Below.refl _ w
 | v :: r,o,w=>((Below.refl B w).setCell (p:=⟨g,o,none⟩) hg v).trans (below_sets hg r (o + 1) _)
theorem Leaves.sets {p:Addr} {W w:World} (h:Leaves p W w) {k:Nat} (hk:W.heap.size <= k) (vs:List Value):Leaves p W (w.setCells k 0 vs):=h.step (below_sets hk vs 0 w)
structure RestP (R:List Value) (pv:Value):Prop where
 rest:Rest R
 pts:R[5]? = some pv
theorem RestP.set {R:List Value} {pv u:Value} (h:RestP R pv) (hu:u.oneCell' = true):RestP (R.set 5 u) u:=by
 have hl:=h.rest.len
 refine ⟨⟨by simp [hl],fun v hv=>?_⟩,List.getElem?_set_self (by omega)⟩
 rcases List.mem_or_eq_of_mem_set hv with hv | rfl
 ·exact h.rest.one v hv
 ·exact hu
theorem bd_set (b:Bd) (R:List Value) (u:Value):(b.L R).set 23 u = b.L (R.set 5 u):=rfl
theorem row_one {w:World} {base:Nat} {u:Value} {L:List Pt} (h:w.ownsRow base 30 3 u L.length (fl3 L)):u.oneCell' = true:=by
 obtain ⟨o,c,rfl,_⟩:=(Lies.of_row h).form
 rfl
theorem copied_any (b:Bd) (R:List Value) (pv:Value) (Ls:List Pt) (hR:RestP R pv) (W:World) (hv:Lies W pv Ls) (hl:Ls.length <= 100000) :
  Calls Tryz.prog 60 #[.agg (b.L R).toArray] W fun e W'=>∃ u,e = .returned (.agg (b.L (R.set 5 u)).toArray)/\Hid (Row W W' u Ls):=by
 have hz:Hid _:=body_size hR.rest b
 obtain ⟨V,hV⟩:∃ V,V = ((W.alloc (.cells (b.L R).toArray 35)).alloc (.cells #[.int .i64 0,.int .i64 0,.int .i64 0,.int .i64 0,.int .i64 0,.int .i64 0,.int .i64 0,.int .i64 0,.int .i64 0,.int .i64 0,.int .i64 0,.int .i64 0,.int .i64 0,.int .i64 0,.int .i64 0,.int .i64 0,.int .i64 0,.int .i64 0,.int .i64 0,.int .i64 0,.int .i64 0,.int .i64 0,.int .i64 0,.slice none 0 0,.int .i64 0,.int .i64 0,.int .i64 0,.bool false,.int .i64 0,.bool false,.bool false] 35)):=⟨_,rfl⟩
 have hb0:=n_after W (.cells (b.L R).toArray 35)
 have hb1:=n_after (W.alloc (.cells (b.L R).toArray 35)) (.cells #[.int .i64 0,.int .i64 0,.int .i64 0,.int .i64 0,.int .i64 0,.int .i64 0,.int .i64 0,.int .i64 0,.int .i64 0,.int .i64 0,.int .i64 0,.int .i64 0,.int .i64 0,.int .i64 0,.int .i64 0,.int .i64 0,.int .i64 0,.int .i64 0,.int .i64 0,.int .i64 0,.int .i64 0,.int .i64 0,.int .i64 0,.slice none 0 0,.int .i64 0,.int .i64 0,.int .i64 0,.bool false,.int .i64 0,.bool false,.bool false] 35)
 have Cb:CW V (W.heap.size) (b.L R):=by
  have h9:=(CW.new W (b.L R) 35).step hb1
  rw [hV];exact h9
 have Cr:CW V (W.heap.size + 1) [.int .i64 0,.int .i64 0,.int .i64 0,.int .i64 0,.int .i64 0,.int .i64 0,.int .i64 0,.int .i64 0,.int .i64 0,.int .i64 0,.int .i64 0,.int .i64 0,.int .i64 0,.int .i64 0,.int .i64 0,.int .i64 0,.int .i64 0,.int .i64 0,.int .i64 0,.int .i64 0,.int .i64 0,.int .i64 0,.int .i64 0,.slice none 0 0,.int .i64 0,.int .i64 0,.int .i64 0,.bool false,.int .i64 0,.bool false,.bool false]:=by
  have h9:=CW.new (W.alloc (.cells (b.L R).toArray 35)) [.int .i64 0,.int .i64 0,.int .i64 0,.int .i64 0,.int .i64 0,.int .i64 0,.int .i64 0,.int .i64 0,.int .i64 0,.int .i64 0,.int .i64 0,.int .i64 0,.int .i64 0,.int .i64 0,.int .i64 0,.int .i64 0,.int .i64 0,.int .i64 0,.int .i64 0,.int .i64 0,.int .i64 0,.int .i64 0,.int .i64 0,.slice none 0 0,.int .i64 0,.int .i64 0,.int .i64 0,.bool false,.int .i64 0,.bool false,.bool false] 35
  simp only [World.size_alloc] at h9
  rw [hV];exact h9
 have hB:Below W.heap.size W V:=by rw [hV];exact (b_step hb0 hb1)
 clear hb0 hb1
 have HB:Hid _:=hB
 have HC:Hid _:=cloneA_any pv Ls V (hv.below hB) hl
 clear hv hB
 go_enter Tryz.func60,Tryz.ntmps60
 go_upto_region 1 with fail
 rw [<- hV]
 clear hV
 obtain ⟨pr,hpr⟩:∃ p,p = W.heap.size + 1:=⟨_,rfl⟩
 obtain ⟨pb,hpb⟩:∃ p,p = W.heap.size:=⟨_,rfl⟩
 rw [<- hpr] at Cr
 rw [<- hpb] at Cb
 rw [<- hpr,<- hpb]
 have kp:V.cell? ⟨pb,23,none⟩ = some pv:=(Cb 23 _ hR.pts).1
 have HF:Hid (V.frozen? ⟨pb,23,none⟩ = false):=(Cb 23 _ hR.pts).2
 have hZl:([.int .i64 0,.int .i64 0,.int .i64 0,.int .i64 0,.int .i64 0,.int .i64 0,.int .i64 0,.int .i64 0,.int .i64 0,.int .i64 0,.int .i64 0,.int .i64 0,.int .i64 0,.int .i64 0,.int .i64 0,.int .i64 0,.int .i64 0,.int .i64 0,.int .i64 0,.int .i64 0,.int .i64 0,.int .i64 0,.int .i64 0,.slice none 0 0,.int .i64 0,.int .i64 0,.int .i64 0,.bool false,.int .i64 0,.bool false,.bool false]:List Value).length = 31:=rfl
 have hWb:W.heap.size <= pb:=by omega
 have hWr:W.heap.size <= pr:=by omega
 have nbr:pb ≠ pr:=by omega
 have hbV:pb < V.heap.size:=Cb.lt
 have hrV:pr < V.heap.size:=Cr.lt
 generalize ([.int .i64 0,.int .i64 0,.int .i64 0,.int .i64 0,.int .i64 0,.int .i64 0,.int .i64 0,.int .i64 0,.int .i64 0,.int .i64 0,.int .i64 0,.int .i64 0,.int .i64 0,.int .i64 0,.int .i64 0,.int .i64 0,.int .i64 0,.int .i64 0,.int .i64 0,.int .i64 0,.int .i64 0,.int .i64 0,.int .i64 0,.slice none 0 0,.int .i64 0,.int .i64 0,.int .i64 0,.bool false,.int .i64 0,.bool false,.bool false]:List Value) = zl at *
 clear hpb hpr
 go_wp2_with (fail)
 refine Calls.mono HC.out ?_
 rintro e W1 ⟨u,rfl,hrow⟩
 obtain ⟨uo,uc,hue,_⟩:=(Lies.of_row hrow.row).form
 have hu:=row_one hrow.row
 have Cb:=(Cb.step hrow.below).set 23 u (by rw [hR.rest.all];decide)
 have Cr:=(Cr.step hrow.below).other (a:=⟨pb,23,none⟩) nbr u
 rw [bd_set] at Cb
 have nub:u.ownBlock ≠ some pb:=fun e=>by have:=(hrow.row.lt _ e).1;omega
 have nur:u.ownBlock ≠ some pr:=fun e=>by have:=(hrow.row.lt _ e).1;omega
 have HW:Hid (Row W (W1.setCell ⟨pb,23,none⟩ u) u Ls):=⟨ownsRow_setCell_other (Go.Joins.ownsRow_le hrow.row HB.out.size) nub u,(b_step HB.out hrow.below).setCell hWb u⟩
 have k23:W1.cell? ⟨pb,23,none⟩ = some pv:=c_after hrow.below kp
 have f23:W1.frozen? ⟨pb,23,none⟩ = false:=f_after hrow.below kp HF.out
 have hR2:RestP (R.set 5 u) u:=hR.set hu
 have hz2:Hid _:=body_size hR2.rest b
 have h1:Hid _:=hR2.rest.each b
 have hz3:Hid ((Tryz.prog.info? 35).map (·.size) = some (b.L (R.set 5 u)).toArray.size):=by show _ = _;rw [hz2.out];simp
 have hrl:(b.L (R.set 5 u)).length = 31:=hR2.rest.all b
 have HRG:Hid (World.rangeAt (W1.setCell ⟨pb,23,none⟩ u) pb 0 (b.L (R.set 5 u))):=Cb.range
 have HTH:Hid (World.there (W1.setCell ⟨pb,23,none⟩ u) pr 0 (b.L (R.set 5 u)).toArray.size):=by
  have:=Cr.there
  rw [hZl] at this
  show World.there _ _ _ _
  rw [List.size_toArray,hrl]
  exact this
 have Cr2:=Cr.sets (us:=b.L (R.set 5 u)) (by rw [hrl,hZl])
 have HW2:Hid (Row W ((W1.setCell ⟨pb,23,none⟩ u).setCells pr 0 (b.L (R.set 5 u))) u Ls):=⟨own_sets HW.out.row nur _ _,(HW.out.below).trans (below_sets hWr _ _ _)⟩
 have HX:Hid _:=Cr2.range
 generalize hcs:b.L (R.set 5 u) = cs at *
 have HCS:Hid _:=hcs
 clear hcs
 clear hrow Cb Cr Cr2 HC HW kp hu HF
 subst hue
 go_wp2_with (first | refine wpList_load_mid rfl 35 _ rfl pb 0 rfl _ _ HRG.out Tryz.underlying35 rfl hz2.out ?_ | refine wpList_store_mid rfl 35 _ _ rfl pr 0 _ rfl rfl HTH.out hz3.out h1.out ?_)
 refine bodyPost_ret (results_cell 2 35 Tryz.results60 ⟨pr,0,none⟩ rfl (run_loadVar_mid _ pr 0 35 cs _ HX.out Tryz.underlying35 rfl hz2.out)) rfl ?_
 exact ⟨_,by rw [HCS.out],HW2⟩
def Bd.wp (b:Bd) (p:V3):Bd:=⟨b.k,b.s,b.q,p,b.l,b.m,b.i⟩
def Bd.wl (b:Bd) (l:V3):Bd:=⟨b.k,b.s,b.q,b.p,l,b.m,b.i⟩
def Bd.ws (b:Bd) (s:V3) (q:V4):Bd:=⟨b.k,s,q,b.p,b.l,b.m,b.i⟩
def ifB (b b':Bd):Bd:=if b.k = 2 then b' else b
def pshD (b:Bd) (a j:V3):Bd:=(b.wp (addV b.p j)).wl (addV b.l (crsV a j))
def pshB (b:Bd) (a j:V3):Bool:=addB b.p j || (crsB a j || addB b.l (crsV a j))
def twsD (b:Bd) (j:V3):Bd:=b.wl (addV b.l j)
def fllD (b:Bd) (j:V3) (n:Int):Bd:=b.wp (addV b.p (sclV j (mul1 b.m n)))
def fllB (b:Bd) (j:V3) (n:Int):Bool:=mul1B b.m n || (sclB j (mul1 b.m n) || addB b.p (sclV j (mul1 b.m n)))
theorem Clo.set3 {p:Addr} {g:Bool} {k:Nat} {vs:List Value} {U V:World} (h:Clo p g k vs U V) (hk:k ≠ p.block) (o:Nat) (x y z:Value) (ho:o + 2 < vs.length):Clo p g k (((vs.set o x).set (o + 1) y).set (o + 2) z) U (((V.setCell ⟨k,o,none⟩ x).setCell ⟨k,o + 1,none⟩ y).setCell ⟨k,o + 2,none⟩ z):=
 ((h.set hk o x (by omega)).set hk (o + 1) y (by simp;omega)).set hk (o + 2) z (by simp;omega)
theorem long31 {b:Bd} {R:List Value} (h:Rest R) {o:Nat} (ho:o < 31):o < (b.L R).length:=by rw [h.all];exact ho
theorem push1_any (fb fo pw pb pj pa:Nat) (f:Bool) (b:Bd) (R:List Value) (am jm:V3) (hR:Rest R) (V:World) (hc:V.cell? ⟨fb,fo,none⟩ = some (.bool f)) (hf:V.frozen? ⟨fb,fo,none⟩ = false)
  (Cw:CW V pw [.pointer (some ⟨fb,fo,none⟩)]) (Cb:CW V pb (b.L R)) (Cj:CW V pj [.int .i64 jm.x,.int .i64 jm.y,.int .i64 jm.z]) (Ca:CW V pa [.int .i64 am.x,.int .i64 am.y,.int .i64 am.z]) (nw:pw ≠ fb) (nb:pb ≠ fb) (nj:pj ≠ fb) (na:pa ≠ fb) (wb:pw ≠ pb) (jb:pj ≠ pb) (ab:pa ≠ pb) :
  Calls Tryz.prog 61 #[.pointer (some ⟨pw,0,none⟩),.pointer (some ⟨pb,0,none⟩),.pointer (some ⟨pj,0,none⟩),.pointer (some ⟨pa,0,none⟩)] V fun e W'=>e = .returned (.tuple #[])/\Hid (Clo ⟨fb,fo,none⟩ (f || pshB b am jm) pb ((pshD b am jm).L R) V W'):=by
 have k8:=(Cb 8 _ rfl).1
 have k9:=(Cb 9 _ rfl).1
 have ka:=(Cb 10 _ rfl).1
 have j0:=(Cj 0 _ rfl).1
 have j1:=(Cj 1 _ rfl).1
 have j2:=(Cj 2 _ rfl).1
 have kw:=(Cw 0 _ rfl).1
 have HC:Hid _:=cadd_c fb fo f b.p jm V hc hf
 have HS:Hid _:=Clo.start hc hf Cb
 clear hc hf
 go_enter Tryz.func61,Tryz.ntmps61
 go_wp2_with (fail)
 refine Calls.mono HC.out ?_
 rintro e W1 ⟨rfl,A⟩
 have HS:Hid (Clo _ _ _ _ _ _):=HS.out.same A.out nb
 have Cw:=Cw.after A.out nw
 have Cj:=Cj.after A.out nj
 have Ca:=Ca.after A.out na
 obtain ⟨r0,q0⟩:=HS.out.cw 8 _ rfl
 obtain ⟨r1,q1⟩:=HS.out.cw 9 _ rfl
 obtain ⟨r2,q2⟩:=HS.out.cw 10 _ rfl
 have HS:Hid (Clo _ _ _ _ _ _):=HS.out.set3 nb 8 (.int .i64 (addV b.p jm).x) (.int .i64 (addV b.p jm).y) (.int .i64 (addV b.p jm).z) (long31 hR (by decide))
 clear HC A k8 k9 ka j0 j1 j2 kw Cb
 go_upto_region 1 with fail
 obtain ⟨V1,hV1⟩:∃ X,X = ((W1.setCell ⟨pb,8,none⟩ (.int .i64 (addV b.p jm).x)).setCell ⟨pb,8 + 1,none⟩ (.int .i64 (addV b.p jm).y)).setCell ⟨pb,8 + 2,none⟩ (.int .i64 (addV b.p jm).z):=⟨_,rfl⟩
 have Cw:=((Cw.other (a:=⟨pb,8,none⟩) wb.symm (.int .i64 (addV b.p jm).x)).other (a:=⟨pb,8 + 1,none⟩) wb.symm (.int .i64 (addV b.p jm).y)).other (a:=⟨pb,8 + 2,none⟩) wb.symm (.int .i64 (addV b.p jm).z)
 have Cj:=((Cj.other (a:=⟨pb,8,none⟩) jb.symm (.int .i64 (addV b.p jm).x)).other (a:=⟨pb,8 + 1,none⟩) jb.symm (.int .i64 (addV b.p jm).y)).other (a:=⟨pb,8 + 2,none⟩) jb.symm (.int .i64 (addV b.p jm).z)
 have Ca:=((Ca.other (a:=⟨pb,8,none⟩) ab.symm (.int .i64 (addV b.p jm).x)).other (a:=⟨pb,8 + 1,none⟩) ab.symm (.int .i64 (addV b.p jm).y)).other (a:=⟨pb,8 + 2,none⟩) ab.symm (.int .i64 (addV b.p jm).z)
 obtain ⟨b1,hb1⟩:∃ x,x = b.wp (addV b.p jm):=⟨_,rfl⟩
 rw [<- hV1] at HS Cw Cj Ca
 have HS:Hid (Clo ⟨fb,fo,none⟩ (f || addB b.p jm) pb (b1.L R) V V1):=by rw [hb1];exact HS.out
 try simp only [Nat.reduceAdd] at hV1
 rw [<- hV1]
 have Cb:=HS.out.cw
 have hcV:=HS.out.cell
 have hfV:=HS.out.frozen
 clear hV1 r0 r1 r2 q0 q1 q2
 refine RV.rs [.some (.pointer (some ⟨fb,fo,none⟩)),.some (.pointer (some ⟨pb,11,none⟩)),.some (.agg #[.int .i64 b1.l.x,.int .i64 b1.l.y,.int .i64 b1.l.z]),.some (.pointer (some ⟨fb,fo,none⟩)),.some (.agg #[.int .i64 am.x,.int .i64 am.y,.int .i64 am.z]),.some (.agg #[.int .i64 jm.x,.int .i64 jm.y,.int .i64 jm.z]),.some (.agg #[.int .i64 ((crsV am jm).x),.int .i64 ((crsV am jm).y),.int .i64 ((crsV am jm).z)]),.some (.agg #[.int .i64 ((addV b1.l (crsV am jm)).x),.int .i64 ((addV b1.l (crsV am jm)).y),.int .i64 ((addV b1.l (crsV am jm)).z)]),.some (.pointer (some ⟨pb,11,none⟩)),none] [11,12,13,14,15,16,17,18,19,0] [(0,.pointer (some ⟨pw,0,none⟩)),(1,.pointer (some ⟨pb,0,none⟩)),(2,.pointer (some ⟨pj,0,none⟩)),(3,.pointer (some ⟨pa,0,none⟩))] (fun γ L w9=>FGS V1 ⟨fb,fo,none⟩ (f || addB b.p jm) [(6,crsB am jm),(7,addB b1.l (crsV am jm))] 9 (fun w=>(((w.setCell ⟨pb,11,none⟩ (.int .i64 ((addV b1.l (crsV am jm)).x))).setCell ⟨pb,12,none⟩ (.int .i64 ((addV b1.l (crsV am jm)).y))).setCell ⟨pb,13,none⟩ (.int .i64 ((addV b1.l (crsV am jm)).z)))) L w9) ⟨rfl,rfl,rfl,rfl,trivial⟩ ?_ ?_ ?_
 ·exact FGS.start hcV hfV
 ·intro D WA Z hD hWA hZ T
  simp only [RV.Outs,RV.Slots,Nat.reduceAdd] at T
  iterate 6 first
   | (refine RV.cc _ (RV.pu T (fun γ v L w hl h=>h.stay (by decide) rfl) (fun γ L a w hH hl h9 k9=>⟨_,?_,rfl⟩)) ?_;· simp [execOp,go_sem,h9])
   | (refine RV.cc _ (RV.pu T (fun γ v L w hl h=>h.stay (by decide) rfl) (fun γ L a w hH hl h9 k9=>⟨_,?_,rfl⟩)) ?_;· have hG:=hH.glob.early (RV.ny hH (RV.wt (j:=9) hWA (by kernel_rfl)) hl);have q0:=hG.at (Cb 11 _ rfl).1 nb;have q1:=hG.at (Cb 12 _ rfl).1 nb;have q2:=hG.at (Cb 13 _ rfl).1 nb;simp [Region.binds] at k9;simp [execOp,go_sem,h9,k9,q0,q1,q2])
   | (refine RV.cc _ (RV.pu T (fun γ v L w hl h=>h.stay (by decide) rfl) (fun γ L a w hH hl h9 k9=>⟨_,?_,rfl⟩)) ?_;· have hG:=hH.glob.early (RV.ny hH (RV.wt (j:=9) hWA (by kernel_rfl)) hl);have q0:=hG.at (Cw 0 _ rfl).1 nw;have q1:=hG.at (Ca 0 _ rfl).1 na;have q2:=hG.at (Ca 1 _ rfl).1 na;have q3:=hG.at (Ca 2 _ rfl).1 na;have q4:=hG.at (Cj 0 _ rfl).1 nj;have q5:=hG.at (Cj 1 _ rfl).1 nj;have q6:=hG.at (Cj 2 _ rfl).1 nj;simp [execOp,go_sem,h9,q0,q1,q2,q3,q4,q5,q6])
  refine RV.cc _ (RV.dc (fun γ L a w hH hl hA=>by have h9:=T γ L a w hH;have k9:=hA;simp [Region.binds] at k9;have hG:=hH.glob.early (RV.ny hH (RV.wt (j:=9) (i:=6) hWA (by kernel_rfl)) hl);exact ⟨63,#[.pointer (some ⟨fb,fo,none⟩),.agg #[.int .i64 am.x,.int .i64 am.y,.int .i64 am.z],.agg #[.int .i64 jm.x,.int .i64 jm.y,.int .i64 jm.z]],by simp [go_sem,h9,k9],Calls.mono (ccrs_c fb fo _ am jm w hG.cell hG.frozen) (by rintro e w2 ⟨rfl,ha⟩;exact ⟨_,rfl,rfl,fun j v _ h=>h.keep _,FGS.come hG (by decide) (RV.ny hH (RV.wt (j:=9) (i:=6) hWA (by kernel_rfl)) hl) hl rfl ha.out⟩)⟩)) ?_
  refine RV.cc _ (RV.dc (fun γ L a w hH hl hA=>by have h9:=T γ L a w hH;have k9:=hA;simp [Region.binds] at k9;have hG:=hH.glob.early (RV.ny hH (RV.wt (j:=9) (i:=7) hWA (by kernel_rfl)) hl);exact ⟨62,#[.pointer (some ⟨fb,fo,none⟩),.agg #[.int .i64 b1.l.x,.int .i64 b1.l.y,.int .i64 b1.l.z],.agg #[.int .i64 ((crsV am jm).x),.int .i64 ((crsV am jm).y),.int .i64 ((crsV am jm).z)]],by simp [go_sem,h9,k9],Calls.mono (cadd_c fb fo _ b1.l (crsV am jm) w hG.cell hG.frozen) (by rintro e w2 ⟨rfl,ha⟩;exact ⟨_,rfl,rfl,fun j v _ h=>h.keep _,FGS.come hG (by decide) (RV.ny hH (RV.wt (j:=9) (i:=7) hWA (by kernel_rfl)) hl) hl rfl ha.out⟩)⟩)) ?_
  (refine RV.cc _ (RV.pu T (fun γ v L w hl h=>h.stay (by decide) rfl) (fun γ L a w hH hl h9 k9=>⟨_,?_,rfl⟩)) ?_;· simp [execOp,go_sem,h9])
  refine RV.cc _ (RV.does_store (fun γ L a w hH hl hA=>by have h9:=T γ L a w hH;have k9:=hA;simp [Region.binds] at k9;have hG:=hH.glob.early hl;have z0:=hG.at (Cb 11 _ rfl).1 nb;have zf0:=hG.open (Cb 11 _ rfl).1 (Cb 11 _ rfl).2 nb;have z1:=hG.at (Cb 12 _ rfl).1 nb;have zf1:=hG.open (Cb 12 _ rfl).1 (Cb 12 _ rfl).2 nb;have z2:=hG.at (Cb 13 _ rfl).1 nb;have zf2:=hG.open (Cb 13 _ rfl).1 (Cb 13 _ rfl).2 nb;exact ⟨(((w.setCell ⟨pb,11,none⟩ (.int .i64 ((addV b1.l (crsV am jm)).x))).setCell ⟨pb,12,none⟩ (.int .i64 ((addV b1.l (crsV am jm)).y))).setCell ⟨pb,13,none⟩ (.int .i64 ((addV b1.l (crsV am jm)).z))),by simp [execOp,go_sem,z0,zf0,z1,zf1,z2,zf2,h9,k9],trivial,fun j v _ h=>h.keep _,FGS.store (S:=fun w=>(((w.setCell ⟨pb,11,none⟩ (.int .i64 ((addV b1.l (crsV am jm)).x))).setCell ⟨pb,12,none⟩ (.int .i64 ((addV b1.l (crsV am jm)).y))).setCell ⟨pb,13,none⟩ (.int .i64 ((addV b1.l (crsV am jm)).z)))) hG rfl⟩)) ?_
  exact RV.AllDo.nil
 ·intro γ w5 L9 hL hI9 hG9
  obtain ⟨w8,hF8,rfl⟩:=hG9.late (hL 9 (by decide))
  have hFL:orL (f || addB b.p jm) [(6,crsB am jm),(7,addB b1.l (crsV am jm))] L9 = ((f || addB b.p jm) || (crsB am jm || addB b1.l (crsV am jm))):=by unfold orL;simp only [List.any_cons,List.any_nil,hL 6 (by decide),hL 7 (by decide),Bool.true_and,Bool.or_false,Bool.or_assoc]
  have HA8:Hid (After _ _ _ _):=hF8.leaves.done hF8.cell hF8.frozen
  rw [hFL] at HA8
  clear hF8 hFL
  clear hL hI9 hG9
  simp only [RV.putL,Act.put,List.setIfInBounds_toArray,List.set_cons_zero,List.set_cons_succ]
  have HS:Hid (Clo _ _ _ _ _ _):=HS.out.same HA8.out nb
  clear HA8
  go_wp2_with (fail)
  go_end0
  refine ⟨rfl,?_⟩
  have h9:=HS.out.set3 nb 11 (.int .i64 (addV b1.l (crsV am jm)).x) (.int .i64 (addV b1.l (crsV am jm)).y) (.int .i64 (addV b1.l (crsV am jm)).z) (long31 hR (by decide))
  rw [Bool.or_assoc] at h9
  subst hb1
  exact h9
theorem twist1_any (fb fo pw pb pj:Nat) (f:Bool) (b:Bd) (R:List Value) (jm:V3) (hR:Rest R) (V:World) (hc:V.cell? ⟨fb,fo,none⟩ = some (.bool f)) (hf:V.frozen? ⟨fb,fo,none⟩ = false)
  (Cw:CW V pw [.pointer (some ⟨fb,fo,none⟩)]) (Cb:CW V pb (b.L R)) (Cj:CW V pj [.int .i64 jm.x,.int .i64 jm.y,.int .i64 jm.z]) (nb:pb ≠ fb) :
  Calls Tryz.prog 66 #[.pointer (some ⟨pw,0,none⟩),.pointer (some ⟨pb,0,none⟩),.pointer (some ⟨pj,0,none⟩)] V fun e W'=>e = .returned (.tuple #[])/\Hid (Clo ⟨fb,fo,none⟩ (f || addB b.l jm) pb ((twsD b jm).L R) V W'):=by
 have k8:=(Cb 11 _ rfl).1
 have k9:=(Cb 12 _ rfl).1
 have ka:=(Cb 13 _ rfl).1
 have j0:=(Cj 0 _ rfl).1
 have j1:=(Cj 1 _ rfl).1
 have j2:=(Cj 2 _ rfl).1
 have kw:=(Cw 0 _ rfl).1
 have HC:Hid _:=cadd_c fb fo f b.l jm V hc hf
 have HS:Hid _:=Clo.start hc hf Cb
 clear hc hf Cw Cb Cj
 go_enter Tryz.func66,Tryz.ntmps66
 go_wp2_with (fail)
 refine Calls.mono HC.out ?_
 rintro e W1 ⟨rfl,A⟩
 have HS:Hid (Clo _ _ _ _ _ _):=HS.out.same A.out nb
 obtain ⟨r0,q0⟩:=HS.out.cw 11 _ rfl
 obtain ⟨r1,q1⟩:=HS.out.cw 12 _ rfl
 obtain ⟨r2,q2⟩:=HS.out.cw 13 _ rfl
 clear HC A k8 k9 ka j0 j1 j2 kw
 go_wp2_with (fail)
 go_end0
 exact ⟨rfl,HS.out.set3 nb 11 (.int .i64 (addV b.l jm).x) (.int .i64 (addV b.l jm).y) (.int .i64 (addV b.l jm).z) (long31 hR (by decide))⟩
theorem fall1_any (fb fo pw pb pj pn:Nat) (f:Bool) (b:Bd) (R:List Value) (jm:V3) (n:Int) (hR:Rest R) (V:World) (hc:V.cell? ⟨fb,fo,none⟩ = some (.bool f)) (hf:V.frozen? ⟨fb,fo,none⟩ = false)
  (Cw:CW V pw [.pointer (some ⟨fb,fo,none⟩)]) (Cb:CW V pb (b.L R)) (Cj:CW V pj [.int .i64 jm.x,.int .i64 jm.y,.int .i64 jm.z]) (Cn:CW V pn [.int .i64 n]) (nw:pw ≠ fb) (nb:pb ≠ fb) (nj:pj ≠ fb) (nn:pn ≠ fb) :
  Calls Tryz.prog 67 #[.pointer (some ⟨pw,0,none⟩),.pointer (some ⟨pb,0,none⟩),.pointer (some ⟨pj,0,none⟩),.pointer (some ⟨pn,0,none⟩)] V fun e W'=>e = .returned (.tuple #[])/\Hid (Clo ⟨fb,fo,none⟩ (f || fllB b jm n) pb ((fllD b jm n).L R) V W'):=by
 have HS:Hid _:=Clo.start hc hf Cb
 go_enter Tryz.func67,Tryz.ntmps67
 go_upto_region 0 with fail
 refine RV.rs [.some (.pointer (some ⟨fb,fo,none⟩)),.some (.pointer (some ⟨pb,8,none⟩)),.some (.agg #[.int .i64 b.p.x,.int .i64 b.p.y,.int .i64 b.p.z]),.some (.pointer (some ⟨fb,fo,none⟩)),.some (.agg #[.int .i64 jm.x,.int .i64 jm.y,.int .i64 jm.z]),.some (.pointer (some ⟨fb,fo,none⟩)),.some (.pointer (some ⟨pb,14,none⟩)),.some (.pointer (some ⟨pb,14,none⟩)),.some (.int .i64 b.m),.some (.int .i64 n),.some (.int .i64 (mul1 b.m n)),.some (.agg #[.int .i64 ((sclV jm (mul1 b.m n)).x),.int .i64 ((sclV jm (mul1 b.m n)).y),.int .i64 ((sclV jm (mul1 b.m n)).z)]),.some (.agg #[.int .i64 ((addV b.p (sclV jm (mul1 b.m n))).x),.int .i64 ((addV b.p (sclV jm (mul1 b.m n))).y),.int .i64 ((addV b.p (sclV jm (mul1 b.m n))).z)]),.some (.pointer (some ⟨pb,8,none⟩)),none] [5,6,7,8,9,10,11,12,13,14,15,16,17,18,0] [(0,.pointer (some ⟨pw,0,none⟩)),(1,.pointer (some ⟨pb,0,none⟩)),(2,.pointer (some ⟨pj,0,none⟩)),(3,.pointer (some ⟨pn,0,none⟩))] (fun γ L w9=>FGS V ⟨fb,fo,none⟩ f [(10,mul1B b.m n),(11,sclB jm (mul1 b.m n)),(12,addB b.p (sclV jm (mul1 b.m n)))] 14 (fun w=>(((w.setCell ⟨pb,8,none⟩ (.int .i64 ((addV b.p (sclV jm (mul1 b.m n))).x))).setCell ⟨pb,9,none⟩ (.int .i64 ((addV b.p (sclV jm (mul1 b.m n))).y))).setCell ⟨pb,10,none⟩ (.int .i64 ((addV b.p (sclV jm (mul1 b.m n))).z)))) L w9) ⟨rfl,rfl,rfl,rfl,trivial⟩ ?_ ?_ ?_
 ·exact FGS.start hc hf
 ·intro D WA Z hD hWA hZ T
  simp only [RV.Outs,RV.Slots,Nat.reduceAdd] at T
  iterate 10 first
   | (refine RV.cc _ (RV.pu T (fun γ v L w hl h=>h.stay (by decide) rfl) (fun γ L a w hH hl h9 k9=>⟨_,?_,rfl⟩)) ?_;· simp [execOp,go_sem,h9])
   | (refine RV.cc _ (RV.pu T (fun γ v L w hl h=>h.stay (by decide) rfl) (fun γ L a w hH hl h9 k9=>⟨_,?_,rfl⟩)) ?_;· simp [Region.binds] at k9;simp [execOp,go_sem,h9,k9])
   | (refine RV.cc _ (RV.pu T (fun γ v L w hl h=>h.stay (by decide) rfl) (fun γ L a w hH hl h9 k9=>⟨_,?_,rfl⟩)) ?_;· have hG:=hH.glob.early (RV.ny hH (RV.wt (j:=14) hWA (by kernel_rfl)) hl);have q0:=hG.at (Cb 8 _ rfl).1 nb;have q1:=hG.at (Cb 9 _ rfl).1 nb;have q2:=hG.at (Cb 10 _ rfl).1 nb;have q3:=hG.at (Cb 14 _ rfl).1 nb;simp [Region.binds] at k9;simp [execOp,go_sem,h9,k9,q0,q1,q2,q3])
   | (refine RV.cc _ (RV.pu T (fun γ v L w hl h=>h.stay (by decide) rfl) (fun γ L a w hH hl h9 k9=>⟨_,?_,rfl⟩)) ?_;· have hG:=hH.glob.early (RV.ny hH (RV.wt (j:=14) hWA (by kernel_rfl)) hl);have q0:=hG.at (Cw 0 _ rfl).1 nw;have q1:=hG.at (Cj 0 _ rfl).1 nj;have q2:=hG.at (Cj 1 _ rfl).1 nj;have q3:=hG.at (Cj 2 _ rfl).1 nj;have q4:=hG.at (Cn 0 _ rfl).1 nn;simp [execOp,go_sem,h9,q0,q1,q2,q3,q4])
  refine RV.cc _ (RV.dc (fun γ L a w hH hl hA=>by have h9:=T γ L a w hH;have k9:=hA;simp [Region.binds] at k9;have hG:=hH.glob.early (RV.ny hH (RV.wt (j:=14) (i:=10) hWA (by kernel_rfl)) hl);exact ⟨69,#[.pointer (some ⟨fb,fo,none⟩),.int .i64 b.m,.int .i64 n],by simp [go_sem,h9,k9],Calls.mono (cmul_c fb fo _ b.m n w hG.cell hG.frozen) (by rintro e w2 ⟨rfl,ha⟩;exact ⟨_,rfl,rfl,fun j v _ h=>h.keep _,FGS.come hG (by decide) (RV.ny hH (RV.wt (j:=14) (i:=10) hWA (by kernel_rfl)) hl) hl rfl ha.out⟩)⟩)) ?_
  refine RV.cc _ (RV.dc (fun γ L a w hH hl hA=>by have h9:=T γ L a w hH;have k9:=hA;simp [Region.binds] at k9;have hG:=hH.glob.early (RV.ny hH (RV.wt (j:=14) (i:=11) hWA (by kernel_rfl)) hl);exact ⟨68,#[.pointer (some ⟨fb,fo,none⟩),.agg #[.int .i64 jm.x,.int .i64 jm.y,.int .i64 jm.z],.int .i64 (mul1 b.m n)],by simp [go_sem,h9,k9],Calls.mono (cscl_c fb fo _ jm (mul1 b.m n) w hG.cell hG.frozen) (by rintro e w2 ⟨rfl,ha⟩;exact ⟨_,rfl,rfl,fun j v _ h=>h.keep _,FGS.come hG (by decide) (RV.ny hH (RV.wt (j:=14) (i:=11) hWA (by kernel_rfl)) hl) hl rfl ha.out⟩)⟩)) ?_
  refine RV.cc _ (RV.dc (fun γ L a w hH hl hA=>by have h9:=T γ L a w hH;have k9:=hA;simp [Region.binds] at k9;have hG:=hH.glob.early (RV.ny hH (RV.wt (j:=14) (i:=12) hWA (by kernel_rfl)) hl);exact ⟨62,#[.pointer (some ⟨fb,fo,none⟩),.agg #[.int .i64 b.p.x,.int .i64 b.p.y,.int .i64 b.p.z],.agg #[.int .i64 ((sclV jm (mul1 b.m n)).x),.int .i64 ((sclV jm (mul1 b.m n)).y),.int .i64 ((sclV jm (mul1 b.m n)).z)]],by simp [go_sem,h9,k9],Calls.mono (cadd_c fb fo _ b.p (sclV jm (mul1 b.m n)) w hG.cell hG.frozen) (by rintro e w2 ⟨rfl,ha⟩;exact ⟨_,rfl,rfl,fun j v _ h=>h.keep _,FGS.come hG (by decide) (RV.ny hH (RV.wt (j:=14) (i:=12) hWA (by kernel_rfl)) hl) hl rfl ha.out⟩)⟩)) ?_
  (refine RV.cc _ (RV.pu T (fun γ v L w hl h=>h.stay (by decide) rfl) (fun γ L a w hH hl h9 k9=>⟨_,?_,rfl⟩)) ?_;· simp [execOp,go_sem,h9])
  refine RV.cc _ (RV.does_store (fun γ L a w hH hl hA=>by have h9:=T γ L a w hH;have k9:=hA;simp [Region.binds] at k9;have hG:=hH.glob.early hl;have z0:=hG.at (Cb 8 _ rfl).1 nb;have zf0:=hG.open (Cb 8 _ rfl).1 (Cb 8 _ rfl).2 nb;have z1:=hG.at (Cb 9 _ rfl).1 nb;have zf1:=hG.open (Cb 9 _ rfl).1 (Cb 9 _ rfl).2 nb;have z2:=hG.at (Cb 10 _ rfl).1 nb;have zf2:=hG.open (Cb 10 _ rfl).1 (Cb 10 _ rfl).2 nb;exact ⟨(((w.setCell ⟨pb,8,none⟩ (.int .i64 ((addV b.p (sclV jm (mul1 b.m n))).x))).setCell ⟨pb,9,none⟩ (.int .i64 ((addV b.p (sclV jm (mul1 b.m n))).y))).setCell ⟨pb,10,none⟩ (.int .i64 ((addV b.p (sclV jm (mul1 b.m n))).z))),by simp [execOp,go_sem,z0,zf0,z1,zf1,z2,zf2,h9,k9],trivial,fun j v _ h=>h.keep _,FGS.store (S:=fun w=>(((w.setCell ⟨pb,8,none⟩ (.int .i64 ((addV b.p (sclV jm (mul1 b.m n))).x))).setCell ⟨pb,9,none⟩ (.int .i64 ((addV b.p (sclV jm (mul1 b.m n))).y))).setCell ⟨pb,10,none⟩ (.int .i64 ((addV b.p (sclV jm (mul1 b.m n))).z)))) hG rfl⟩)) ?_
  exact RV.AllDo.nil
 ·intro γ w5 L9 hL hI9 hG9
  obtain ⟨w8,hF8,rfl⟩:=hG9.late (hL 14 (by decide))
  have hFL:orL f [(10,mul1B b.m n),(11,sclB jm (mul1 b.m n)),(12,addB b.p (sclV jm (mul1 b.m n)))] L9 = (f || (mul1B b.m n || sclB jm (mul1 b.m n) || addB b.p (sclV jm (mul1 b.m n)))):=by unfold orL;simp only [List.any_cons,List.any_nil,hL 10 (by decide),hL 11 (by decide),hL 12 (by decide),Bool.true_and,Bool.or_false,Bool.or_assoc]
  have HA8:Hid (After _ _ _ _):=hF8.leaves.done hF8.cell hF8.frozen
  rw [hFL] at HA8
  clear hF8 hFL
  clear hL hI9 hG9
  simp only [RV.putL,Act.put,List.setIfInBounds_toArray,List.set_cons_zero,List.set_cons_succ]
  have HS:Hid (Clo _ _ _ _ _ _):=HS.out.same HA8.out nb
  clear HA8
  go_wp2_with (fail)
  go_end0
  have h9:=HS.out.set3 nb 8 (.int .i64 (addV b.p (sclV jm (mul1 b.m n))).x) (.int .i64 (addV b.p (sclV jm (mul1 b.m n))).y) (.int .i64 (addV b.p (sclV jm (mul1 b.m n))).z) (long31 hR (by decide))
  rw [Bool.or_assoc (mul1B b.m n)] at h9
  exact ⟨rfl,h9⟩
end
end Go.Proofs.YtpjaacpcdomfiaaGreat
