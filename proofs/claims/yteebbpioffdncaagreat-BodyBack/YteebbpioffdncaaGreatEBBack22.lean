/- The document's own mass of a shape that may be. -/
import Derived.Test.YteebbpioffdncaaGreatEBBack21
set_option maxHeartbeats 4000000
set_option maxRecDepth 100000
set_option linter.unusedVariables false
namespace Go.Proofs.YteebbpioffdncaaGreat
open Go.Calls renaming mono -> JA
open Go renaming execOp -> JD
open List renaming set_cons_succ -> JF
open List renaming set_cons_zero -> JG
open List renaming setIfInBounds_toArray -> JH
open Tryz
open Go.Value renaming int -> J
open Go.IntKind renaming i64 -> I
section
open Go.RowKit Go.Shelf Fx
theorem Jpv:(Tryz.prog.info? 3).map (fun i=>(i.zero,i.size,i.bytes)) = some (some (J I 0),1,8):=by kernel_rfl
structure N3 (w0 W:World) (vx vy vz:Value) (X Y Z:List Int):Prop where
 rx:W.ownsRow w0.heap.size 3 1 vx X.length (X.map (.int .i64))
 ry:W.ownsRow w0.heap.size 3 1 vy Y.length (Y.map (.int .i64))
 rz:W.ownsRow w0.heap.size 3 1 vz Z.length (Z.map (.int .i64))
 xy:∀ k,vx.ownBlock = some k->vy.ownBlock ≠ some k
 xz:∀ k,vx.ownBlock = some k->vz.ownBlock ≠ some k
 yz:∀ k,vy.ownBlock = some k->vz.ownBlock ≠ some k
 below:Below w0.heap.size w0 W
theorem N3.rot {w0 W:World} {vx vy vz:Value} {X Y Z:List Int} (h:N3 w0 W vx vy vz X Y Z):N3 w0 W vy vz vx Y Z X:=⟨h.ry,h.rz,h.rx,h.yz,fun k e e'=>h.xy k e' e,fun k e e'=>h.xz k e' e,h.below⟩
theorem N3.step {w0 W V:World} {vx vy vz:Value} {X Y Z:List Int} (h:N3 w0 W vx vy vz X Y Z) (hb:Below W.heap.size W V):N3 w0 V vx vy vz X Y Z:=⟨Jq h.rx hb,Jq h.ry hb,Jq h.rz hb,h.xy,h.xz,h.yz,Jf h.below hb⟩
theorem N3.gx {w0 W V:World} {vx vy vz v':Value} {X Y Z X':List Int} (h:N3 w0 W vx vy vz X Y Z) (hr:V.ownsRow w0.heap.size 3 1 v' X'.length (X'.map (.int .i64))) (hg:Grew W V vx v'):N3 w0 V v' vy vz X' Y Z:=by
 obtain ⟨a1,a2⟩:=hg.beside h.ry (fun k e e'=>h.xy k e' e)
 obtain ⟨b1,b2⟩:=hg.beside h.rz (fun k e e'=>h.xz k e' e)
 exact ⟨hr,a1,b1,fun k e e'=>a2 k e' e,fun k e e'=>b2 k e' e,h.yz,hg.on h.below h.rx h.below.size⟩
theorem Jfo {w:World} {base n:Nat} {v:Value} {xs:List Value} (h:w.ownsRow base 3 1 v n xs):∃ o c,v = .slice o n c:=by
 rcases h.2 with ⟨rfl,h0⟩ | ⟨g,cap,cur,rfl,_⟩
 ·exact ⟨none,0,by rw [h0]⟩
 ·exact ⟨_,_,rfl⟩
theorem Jjq {w w':World} {v v':Value} (hg:w.grownBy w' v.ownBlock) (hs:v'.ownBlock = v.ownBlock \/ v'.ownBlock = some w.heap.size):Grew w w' v v':=
 ⟨hg,by rcases hs with e | e;exact Or.inl e;exact Or.inr ⟨_,e,Nat.le_refl _⟩⟩
def A9 (p q:Nat) (W7:World) (B:Nat) (u:Value) (n:Nat) (xs:List Value) (new:Value) (γ:Nat->Value) (L:Nat->Bool) (w:World):Prop:=
 (L q = false/\Below W7.heap.size W7 w/\(L p = true->∃ g,γ p = .slice (some ⟨g,0,none⟩) 1 1/\w.cell? ⟨g,0,none⟩ = some new)) \/
 (L q = true/\w.ownsRow B 3 1 (γ q) (n + 1) (xs ++ [new])/\Grew W7 w u (γ q))
section
variable {p q:Nat} {W7:World} {B:Nat} {u:Value} {n:Nat} {xs:List Value} {new:Value} {γ:Nat->Value} {L:Nat->Bool} {w:World}
theorem A9.other (h:A9 p q W7 B u n xs new γ L w) {i:Nat} (v:Value) (hp:p ≠ i) (hq:q ≠ i):A9 p q W7 B u n xs new (RV.upd γ i v) (more L i) w:=by
 unfold A9
 rw [RV.mn hp,RV.mn hq,RV.upd_ne _ _ hp,RV.upd_ne _ _ hq]
 exact h
theorem A9.early (h:A9 p q W7 B u n xs new γ L w) (hq:L q = false):Below W7.heap.size W7 w/\(L p = true->∃ g,γ p = .slice (some ⟨g,0,none⟩) 1 1/\w.cell? ⟨g,0,none⟩ = some new):=by
 rcases h with h | h
 ·exact h.2
 ·rw [hq] at h;cases h.1
theorem A9.call {w':World} (h:A9 p q W7 B u n xs new γ L w) (hq:L q = false) (hb:Below w.heap.size w w') {i:Nat} (v:Value) (hpi:p ≠ i) (hqi:q ≠ i):A9 p q W7 B u n xs new (RV.upd γ i v) (more L i) w':=by
 obtain ⟨h1,h2⟩:=h.early hq
 refine Or.inl ⟨by rw [RV.mn hqi];exact hq,Jf h1 hb,fun e=>?_⟩
 rw [RV.mn hpi] at e
 rw [RV.upd_ne _ _ hpi]
 obtain ⟨g,e1,e2⟩:=h2 e
 exact ⟨g,e1,Ja hb e2⟩
theorem A9.lay (h:A9 p q W7 B u n xs new γ L w) (hq:L q = false) (npq:q ≠ p):A9 p q W7 B u n xs new (RV.upd γ p (.slice (some ⟨w.heap.size,0,none⟩) 1 1)) (more L p) (w.alloc (.cells #[new] 3)):=
 Or.inl ⟨by rw [RV.mn npq];exact hq,Jf (h.early hq).1 (Jb _ _),fun _=>⟨w.heap.size,by rw [RV.upd_self],by simp⟩⟩
theorem A9.app {w':World} {v':Value} (hr:w'.ownsRow B 3 1 v' (n + 1) (xs ++ [new])) (hg:Grew W7 w' u v'):A9 p q W7 B u n xs new (RV.upd γ q v') (more L q) w':=
 Or.inr ⟨RV.more_self,by rw [RV.upd_self];exact hr,by rw [RV.upd_self];exact hg⟩
theorem A9.done (h:A9 p q W7 B u n xs new γ L w) (hq:L q = true):w.ownsRow B 3 1 (γ q) (n + 1) (xs ++ [new])/\Grew W7 w u (γ q):=by
 rcases h with h | h
 ·rw [hq] at h;cases h.1
 ·exact h.2
end
theorem Jtn {w:World} {g:Nat} {x:Value} (h:w.cell? ⟨g,0,none⟩ = some x):∀ j u,[x][j]? = some u->w.cell? ((⟨g,0,none⟩:Addr).add j) = some u:=by
 intro j u hj
 match j,hj with
 | 0,hj=>simp at hj;subst hj;simpa [Addr.add] using h
theorem Jq5 (s:Sh) (pv:Value) (m:Int) (w0:World) (hv:Lies w0 pv s.pts) (hck:Jaj s = 0) (hm0:16777216 <= m) (hm1:m <= 1099511627776) :
  Calls Tryz.prog 32 #[s.v pv,J I m] w0 fun e W=>e = .returned (.tuple #[.agg #[J I m,J I (Jbr (Jfk s m).x 4096),J I (Jbr (Jfk s m).y 4096),J I (Jbr (Jfk s m).z 4096)],J I 0])/\Below w0.heap.size w0 W:=by
 have hB:Hid (Below w0.heap.size w0 ((w0.alloc (.cells #[J I s.kind,J I s.radius,J I s.half.x,J I s.half.y,J I s.half.z,pv] 37)).alloc (.cells #[J I 0,J I 0,J I 0,J I 0] 36))):=Jf (Jb w0 _) (Jb _ _)
 have HF:Hid _:=Jo2 s pv ((w0.alloc (.cells #[J I s.kind,J I s.radius,J I s.half.x,J I s.half.y,J I s.half.z,pv] 37)).alloc (.cells #[J I 0,J I 0,J I 0,J I 0] 36)) (hv.below hB.out)
 have B1:Hid (Cells ((w0.alloc (.cells #[J I s.kind,J I s.radius,J I s.half.x,J I s.half.y,J I s.half.z,pv] 37)).alloc (.cells #[J I 0,J I 0,J I 0,J I 0] 36)) w0.heap.size [J I s.kind,J I s.radius,J I s.half.x,J I s.half.y,J I s.half.z,pv]):=(Cells.new w0 [J I s.kind,J I s.radius,J I s.half.x,J I s.half.y,J I s.half.z,pv] _).step (Jb _ _)
 have B2:Hid (Cells ((w0.alloc (.cells #[J I s.kind,J I s.radius,J I s.half.x,J I s.half.y,J I s.half.z,pv] 37)).alloc (.cells #[J I 0,J I 0,J I 0,J I 0] 36)) (w0.heap.size + 1) [J I 0,J I 0,J I 0,J I 0]):=by have:=Cells.new (w0.alloc (.cells #[J I s.kind,J I s.radius,J I s.half.x,J I s.half.y,J I s.half.z,pv] 37)) [J I 0,J I 0,J I 0,J I 0] 36;rwa [World.size_alloc] at this
 have HOK:Hid (Jaj s = 0->_):=fun h=>Jhc h
 have HIN:Hid (Jfk s m = if s.kind = 1 then ⟨Jgp m (s.radius * 1048576),Jgp m (s.radius * 1048576),Jgp m (s.radius * 1048576)⟩ else ⟨Jjp m (Jbd (Jch s) s.radius).y (Jbd (Jch s) s.radius).z,Jjp m (Jbd (Jch s) s.radius).z (Jbd (Jch s) s.radius).x,Jjp m (Jbd (Jch s) s.radius).x (Jbd (Jch s) s.radius).y⟩):=rfl
 obtain ⟨ix,iy,iz,hI⟩:∃ ix iy iz,Jfk s m = ⟨ix,iy,iz⟩:=⟨_,_,_,rfl⟩
 rw [hI] at HIN ⊢
 dsimp only
 clear hI
 obtain ⟨jx,hjx⟩:∃ j,Jbr ix 4096 = j:=⟨_,rfl⟩
 obtain ⟨jy,hjy⟩:∃ j,Jbr iy 4096 = j:=⟨_,rfl⟩
 obtain ⟨jz,hjz⟩:∃ j,Jbr iz 4096 = j:=⟨_,rfl⟩
 rw [hjx,hjy,hjz]
 unfold Jbr at hjx hjy hjz
 generalize Jch s = P at *
 generalize Jn5 s = A at *
 generalize Jji s = E at *
 generalize Jaj s = C at *
 obtain ⟨k,r,⟨hx,hy,hz⟩,L⟩:=s
 obtain ⟨o,c,rfl,hlc,hcm,_⟩:=hv.form
 clear hv
 unfold Sh.v at *
 dsimp only at *
 go_enter func32,ntmps32
 go_wp2_with (fail)
 refine JA HF.out ?_
 clear HF
 rintro e V ⟨vp,va,ve,hbad,hgood⟩
 obtain ⟨br,hbr⟩:∃ b,b = w0.heap.size + 1:=⟨_,rfl⟩
 have hbl:w0.heap.size <= br:=by omega
 rw [<- hbr] at B2 ⊢
 clear hbr
 have hC:=hck
 obtain ⟨rfl,hT⟩:=hgood hC
 subst hC
 have hb0:=hT.below
 obtain ⟨op,cp,rfl,_⟩:=(Lies.of_row hT.rp).form
 obtain ⟨oa,ca,rfl,_⟩:=(Lies.of_row hT.ra).form
 obtain ⟨oe,ce,rfl,_⟩:=(Lies.of_row hT.re).form
 have LP:Hid _:=Lies.of_row hT.rp
 obtain ⟨X,hX⟩:∃ X:World,X = V.alloc (.cells #[.slice op P.length cp,.slice oa A.length ca,.slice oe E.length ce,J I r] 110):=⟨_,rfl⟩
 obtain ⟨b6,hb6⟩:∃ b,b = V.heap.size:=⟨_,rfl⟩
 have hb:Below V.heap.size V X:=by rw [hX];exact Jb _ _
 have BC:Hid (Cells X b6 [.slice op P.length cp,.slice oa A.length ca,.slice oe E.length ce,J I r]):=by rw [hX,hb6];exact Cells.new V [.slice op P.length cp,.slice oa A.length ca,.slice oe E.length ce,J I r] _
 have LP:Hid _:=LP.out.below hb
 have hD:Hid (Below w0.heap.size w0 X):=Jf (Jf hB.out hb0) hb
 have D1:Hid (Cells X w0.heap.size [J I k,J I r,J I hx,J I hy,J I hz,.slice o L.length c]):=Cells.step (Cells.step B1.out hb0) hb
 have D2:Hid (Cells X br [J I 0,J I 0,J I 0,J I 0]):=Cells.step (Cells.step B2.out hb0) hb
 obtain ⟨_,hr,p1,p2,p3⟩:=HOK.out rfl
 have P3:Hid _:=p3
 go_upto_region 2 with fail
 rw [<- hX,<- hb6]
 clear hX hb6 hb hb0 hT hbad hgood B1 B2 hB HOK p3
 have h1:¬ m < 16777216:=by omega
 have h2:¬ m > 1099511627776:=by omega
 have c0:=(D1.out 0 _ rfl).1
 go_upto_region 8 with fail
 obtain ⟨Wb,hWb⟩:∃ Y:World,Y = X.alloc (.cells #[.bool false] 53):=⟨_,rfl⟩
 obtain ⟨b8,hb8⟩:∃ b,b = X.heap.size:=⟨_,rfl⟩
 have hb:Below X.heap.size X Wb:=by rw [hWb];exact Jb _ _
 have BW:Hid (Cells Wb b8 [.bool false]):=by rw [hWb,hb8];exact Cells.new X [.bool false] _
 have LP:Hid _:=LP.out.below hb
 have BC:Hid _:=Cells.step BC.out hb
 have hD:Hid _:=Jf hD.out hb
 have D1:Hid _:=Cells.step D1.out hb
 have D2:Hid _:=Cells.step D2.out hb
 rw [<- hWb,<- hb8]
 clear hWb hb8 hb c0
 have c0:=(D1.out 0 _ rfl).1
 have c1:=(D1.out 1 _ rfl).1
 go_upto_if 39 with fail
 go_cut [9] from 10 (fun s9 wx=>∃ gl:Nat,s9 = .slice (some ⟨gl,0,none⟩) 3 3/\Hid (Cells wx gl [J I ix,J I iy,J I iz])/\Hid (Below Wb.heap.size Wb wx))
 case first =>
  by_cases hk1:k = 1
  ·have e9:=HIN.out
   rw [if_pos hk1] at e9
   simp only [Pt.mk.injEq] at e9
   obtain ⟨u1,u2,u3⟩:=e9
   subst hk1
   have q0:0 <= r * 1048576/\r * 1048576 <= 137438953472:=by omega
   have q1:=Jjw q0.1 q0.2
   have q2:=Jgu (m:=m) (by omega) hm1 q0.1 q0.2
   have q3:=Jel (m:=m) (by omega) hm1 q0.1 q0.2
   have q4:=Jmt q3.1 q3.2
   have M1:Hid _:=fun w' (hu:Cells w' b8 [.bool false])=>RF.rmul_ok b8 (r * 1048576) (r * 1048576) _ w' (hu 0 _ rfl).1 (hu 0 _ rfl).2 q1
   have M2:Hid _:=fun w' (hu:Cells w' b8 [.bool false])=>RF.rmul_ok b8 m _ _ w' (hu 0 _ rfl).1 (hu 0 _ rfl).2 q2
   have M3:Hid _:=fun w' (hu:Cells w' b8 [.bool false])=>RF.rratio_ok b8 _ 2 5 _ w' (hu 0 _ rfl).1 (hu 0 _ rfl).2 q4
   have e1:ix = sqM m (r * 1048576) * 2 / 5:=u1
   have e2:iy = ix:=by rw [u2,e1];rfl
   have e3:iz = ix:=by rw [u3,e1];rfl
   rw [<- e1] at M3
   have E2:Hid _:=e2
   have E3:Hid _:=e3
   clear q0 q1 q2 q3 q4 e1 e2 e3 u1 u2 u3 HIN
   generalize sqM m (r * 1048576) = sq at *
   generalize r * 1048576 * (r * 1048576) / 4294967296 = rq at *
   go_wp2_with (fail)
   refine JA (M1.out _ BW.out) ?_
   rintro e U1 ⟨rfl,hb1⟩
   go_wp2_with (fail)
   refine JA (M2.out _ (Cells.step BW.out hb1)) ?_
   rintro e U2 ⟨rfl,hb2⟩
   go_wp2_with (fail)
   refine JA (M3.out _ (Cells.step (Cells.step BW.out hb1) hb2)) ?_
   rintro e U3 ⟨rfl,hb3⟩
   go_wp2_with (fail)
   go_meet
   case rel=>exact ⟨U3.heap.size,rfl,by show Cells _ _ _;rw [E2.out,E3.out];exact Cells.new U3 [J I ix,J I ix,J I ix] _,Jf (Jf (Jf hb1 hb2) hb3) (Jb _ _)⟩
  ·have e9:=HIN.out
   rw [if_neg hk1] at e9
   simp only [Pt.mk.injEq] at e9
   obtain ⟨e1,e2,e3⟩:=e9
   have hk1':(k == 1) = false:=beq_eq_false_iff_ne.2 hk1
   obtain ⟨l1,l2,l3⟩:=Jgj P 65536 P3.out p1 P.length (Nat.le_refl _)
   rw [Pt.inB_iff] at l1 l2
   have wx:=Jid (r:=r) l1.1.1 l2.1.2 l3.1 hr.1 hr.2
   have wy:=Jid (r:=r) l1.2.1.1 l2.2.1.2 l3.2.1 hr.1 hr.2
   have wz:=Jid (r:=r) l1.2.2.1 l2.2.2.2 l3.2.2 hr.1 hr.2
   have hx1:=Jje (fun p=>p.x) P p1 (fun a p=>rfl) (fun a p=>rfl)
   have hy1:=Jje (fun p=>p.y) P p1 (fun a p=>rfl) (fun a p=>rfl)
   have hz1:=Jje (fun p=>p.z) P p1 (fun a p=>rfl) (fun a p=>rfl)
   have inx:∀ n ∈ P.map (fun p=>p.x),-65536 <= n/\n <= 65536:=fun n hn=>by
    obtain ⟨p,hp,rfl⟩:=List.mem_map.1 hn;exact ((Pt.inB_iff _ _).1 (P3.out p hp)).1
   have iny:∀ n ∈ P.map (fun p=>p.y),-65536 <= n/\n <= 65536:=fun n hn=>by
    obtain ⟨p,hp,rfl⟩:=List.mem_map.1 hn;exact ((Pt.inB_iff _ _).1 (P3.out p hp)).2.1
   have inz:∀ n ∈ P.map (fun p=>p.z),-65536 <= n/\n <= 65536:=fun n hn=>by
    obtain ⟨p,hp,rfl⟩:=List.mem_map.1 hn;exact ((Pt.inB_iff _ _).1 (P3.out p hp)).2.2
   have H1:Hid _:=fun w' v (h:LiesI w' v (P.map (fun p=>p.x)))=>Jhq v _ r w' h (by simpa using p1) (by simpa using p2) inx hr
   have H2:Hid _:=fun w' v (h:LiesI w' v (P.map (fun p=>p.y)))=>Jhq v _ r w' h (by simpa using p1) (by simpa using p2) iny hr
   have H3:Hid _:=fun w' v (h:LiesI w' v (P.map (fun p=>p.z)))=>Jhq v _ r w' h (by simpa using p1) (by simpa using p2) inz hr
   rw [hx1.1,hx1.2] at H1
   rw [hy1.1,hy1.2] at H2
   rw [hz1.1,hz1.2] at H3
   unfold Jbd at e1 e2 e3
   dsimp only at e1 e2 e3
   generalize hw (Jc0 P P.length).x (Jb3 P P.length).x r = ex at *
   generalize hw (Jc0 P P.length).y (Jb3 P P.length).y r = ey at *
   generalize hw (Jc0 P P.length).z (Jb3 P P.length).z r = ez at *
   have E1:Hid _:=e1
   have E2:Hid _:=e2
   have E3:Hid _:=e3
   have RX:Hid (0 <= ex/\ex <= 137438953472):=⟨by omega,by omega⟩
   have RY:Hid (0 <= ey/\ey <= 137438953472):=⟨by omega,by omega⟩
   have RZ:Hid (0 <= ez/\ez <= 137438953472):=⟨by omega,by omega⟩
   clear e1 e2 e3 l1 l2 l3 wx wy wz hx1 hy1 hz1 inx iny inz HIN
   obtain ⟨j0,hii,hiz,hisz,hib⟩:=info_parts Jpv
   have HJ:Hid _:=And.intro hii (And.intro hiz (And.intro hisz hib))
   clear hii hiz hisz hib
   go_wp2_with (fail)
   go_loopg [12,13,14,15] P.length (fun gm s12 s13 s14 s15 wr=>∃ (i:Nat) (ox oy oz:Option Addr) (cx cy cz:Nat),s12 = .slice ox i cx/\s13 = .slice oy i cy/\s14 = .slice oz i cz/\s15 = J I (i:Int)/\i <= P.length/\gm = P.length - i/\Hid (N3 Wb wr (.slice ox i cx) (.slice oy i cy) (.slice oz i cz) ((P.take i).map (fun p=>p.x)) ((P.take i).map (fun p=>p.y)) ((P.take i).map (fun p=>p.z))))
   case atStart=>exact ⟨0,none,none,none,0,0,0,rfl,rfl,rfl,rfl,Nat.zero_le _,rfl,⟨World.ownsRow_nil _ _ _ _,World.ownsRow_nil _ _ _ _,World.ownsRow_nil _ _ _ _,(fun _ h=>by cases h),(fun _ h=>by cases h),(fun _ h=>by cases h),Below.refl _ _⟩⟩
   case round =>
    obtain ⟨ii,ox,oy,oz,cx,cy,cz,rfl,rfl,rfl,rfl,hi,hgm,HN⟩:=hrel
    have HG1:Hid _:=hgm
    clear hgm
    have hli:(P.take ii).length = ii:=by rw [List.length_take,Nat.min_eq_left hi]
    by_cases hit:ii < P.length
    ·obtain ⟨_,_,e9,_,hcp,hc9⟩:=LP.out.form
     cases e9
     obtain ⟨g,off,e9,x0,x1,x2⟩:=hc9 ii hit
     subst e9
     clear hc9
     have XX:Hid _:=And.intro x0 (And.intro x1 x2)
     clear x0 x1 x2
     have HTX:Hid ((P.take ii).map (fun p=>p.x) ++ [(pt P ii).x] = (P.take (ii + 1)).map (fun p=>p.x)):=by show _ = _;rw [Jb2 hit,List.map_append];rfl
     have HTY:Hid ((P.take ii).map (fun p=>p.y) ++ [(pt P ii).y] = (P.take (ii + 1)).map (fun p=>p.y)):=by show _ = _;rw [Jb2 hit,List.map_append];rfl
     have HTZ:Hid ((P.take ii).map (fun p=>p.z) ++ [(pt P ii).z] = (P.take (ii + 1)).map (fun p=>p.z)):=by show _ = _;rw [Jb2 hit,List.map_append];rfl
     generalize (pt P ii).x = px at *
     generalize (pt P ii).y = py at *
     generalize (pt P ii).z = pz at *
     have hiz:(ii:Int) < (P.length:Int):=by omega
     have hsz:=HN.out.below.size
     have d0:=(Cells.step BC.out HN.out.below 0 _ rfl).1
     have x0:=Ja HN.out.below XX.out.1
     go_upto_region 19 with (at_builtin;refine wpList_append_own_at _ rfl _ _ 108 rfl Wb.heap.size 3 j0 _ 1 8 underlying108 HJ.out.1 HJ.out.2.1 HJ.out.2.2.1 HJ.out.2.2.2 rfl (by decide) _ _ _ rfl (Jq HN.out.rx (Jb wr _)) ⟨wr.heap.size,0,none⟩ 1 1 [J I px] rfl rfl (cell_one_new _ _ _) (by intro u hu;simp at hu;rw [hu];rfl) (by unfold maxLen;rw [List.length_map,hli];omega) (by rw [List.length_map,hli];omega) (by simp;omega) ?_;intro u1 V1 r1 g1 _ b1)
     have hr1:V1.ownsRow Wb.heap.size 3 1 u1 ((P.take (ii + 1)).map (fun p=>p.x)).length (((P.take (ii + 1)).map (fun p=>p.x)).map (.int .i64)):=by rw [<- HTX.out,List.length_append,List.map_append];exact r1
     have hl1:((P.take (ii + 1)).map (fun p=>p.x)).length = ii + 1:=by rw [List.length_map,List.length_take];omega
     have HN1:Hid _:=((HN.out.step (Jb wr (.cells #[J I px] 3))).gx hr1 (Jjq g1 b1)).rot
     rw [hl1] at hr1
     obtain ⟨ox',cx',rfl⟩:=Jfo hr1
     clear r1 g1 b1 hr1 hl1 d0 x0 HTX HN
     have hsz:=HN1.out.below.size
     have d0:=(Cells.step BC.out HN1.out.below 0 _ rfl).1
     have x1:=Ja HN1.out.below XX.out.2.1
     go_upto_region 20 with (at_builtin;refine wpList_append_own_at _ rfl _ _ 108 rfl Wb.heap.size 3 j0 _ 1 8 underlying108 HJ.out.1 HJ.out.2.1 HJ.out.2.2.1 HJ.out.2.2.2 rfl (by decide) _ _ _ rfl (Jq HN1.out.rx (Jb V1 _)) ⟨V1.heap.size,0,none⟩ 1 1 [J I py] rfl rfl (cell_one_new _ _ _) (by intro u hu;simp at hu;rw [hu];rfl) (by unfold maxLen;rw [List.length_map,hli];omega) (by rw [List.length_map,hli];omega) (by simp;omega) ?_;intro u2 V2 r1 g1 _ b1)
     have hr1:V2.ownsRow Wb.heap.size 3 1 u2 ((P.take (ii + 1)).map (fun p=>p.y)).length (((P.take (ii + 1)).map (fun p=>p.y)).map (.int .i64)):=by rw [<- HTY.out,List.length_append,List.map_append];exact r1
     have hl1:((P.take (ii + 1)).map (fun p=>p.y)).length = ii + 1:=by rw [List.length_map,List.length_take];omega
     have HN2:Hid _:=((HN1.out.step (Jb V1 (.cells #[J I py] 3))).gx hr1 (Jjq g1 b1)).rot
     rw [hl1] at hr1
     obtain ⟨oy',cy',rfl⟩:=Jfo hr1
     clear r1 g1 b1 hr1 hl1 d0 x1 HTY HN1
     have hsz:=HN2.out.below.size
     have d0:=(Cells.step BC.out HN2.out.below 0 _ rfl).1
     have x2:=Ja HN2.out.below XX.out.2.2
     go_wp2_with (at_builtin;refine wpList_append_own_at _ rfl _ _ 108 rfl Wb.heap.size 3 j0 _ 1 8 underlying108 HJ.out.1 HJ.out.2.1 HJ.out.2.2.1 HJ.out.2.2.2 rfl (by decide) _ _ _ rfl (Jq HN2.out.rx (Jb V2 _)) ⟨V2.heap.size,0,none⟩ 1 1 [J I pz] rfl rfl (cell_one_new _ _ _) (by intro u hu;simp at hu;rw [hu];rfl) (by unfold maxLen;rw [List.length_map,hli];omega) (by rw [List.length_map,hli];omega) (by simp;omega) ?_;intro u3 V3 r1 g1 _ b1)
     have hr1:V3.ownsRow Wb.heap.size 3 1 u3 ((P.take (ii + 1)).map (fun p=>p.z)).length (((P.take (ii + 1)).map (fun p=>p.z)).map (.int .i64)):=by rw [<- HTZ.out,List.length_append,List.map_append];exact r1
     have hl1:((P.take (ii + 1)).map (fun p=>p.z)).length = ii + 1:=by rw [List.length_map,List.length_take];omega
     have HN3:Hid _:=((HN2.out.step (Jb V2 (.cells #[J I pz] 3))).gx hr1 (Jjq g1 b1)).rot
     rw [hl1] at hr1
     obtain ⟨oz',cz',rfl⟩:=Jfo hr1
     clear r1 g1 b1 hr1 hl1 d0 x2 HTZ HN2
     go_roundg (P.length - (ii + 1))
     case measure=>have:=HG1.out;omega
     case rel=>exact ⟨ii + 1,ox',oy',oz',cx',cy',cz',rfl,rfl,rfl,by go_num,by omega,rfl,HN3⟩
    ·have e:ii = P.length:=by omega
     subst e
     rw [List.take_length] at HN
     have LI1:Hid (LiesI wr (.slice ox P.length cx) (P.map (fun p=>p.x))):=LiesI.of_row HN.out.rx
     have LI2:Hid (LiesI wr (.slice oy P.length cy) (P.map (fun p=>p.y))):=LiesI.of_row HN.out.ry
     have LI3:Hid (LiesI wr (.slice oz P.length cz) (P.map (fun p=>p.z))):=LiesI.of_row HN.out.rz
     have d0:=(Cells.step BC.out HN.out.below 0 _ rfl).1
     go_upto_region 21 with fail
     clear d0
     have q1_:=(Cells.step D1.out HN.out.below 1 _ rfl).1
     refine RV.region_by (fun j v w=>match j with | 0=>v = .slice ox P.length cx | 1=>v = .pointer (some ⟨w0.heap.size,1,none⟩) | 2=>v = J I r | 3=>v = J I ex | 4=>v = .slice oy P.length cy | 5=>v = .pointer (some ⟨w0.heap.size,1,none⟩) | 6=>v = J I r | 7=>v = J I ey | 8=>v = .slice oz P.length cz | 9=>v = .pointer (some ⟨w0.heap.size,1,none⟩) | 10=>v = J I r | 11=>v = J I ez | 12=>(fun v w=>∃ g9,v = .slice (some ⟨g9,0,none⟩) 3 3/\wr.heap.size <= g9/\Cells w g9 [J I ex,J I ey,J I ez]) v w | 13=>(fun v w=>∃ g9,v = .slice (some ⟨g9,0,none⟩) 3 3/\wr.heap.size <= g9/\Cells w g9 [J I ex,J I ey,J I ez]) v w | _=>True) (fun γ L w=>Below wr.heap.size wr w) (by kernel_rfl) (by kernel_rfl) (by kernel_rfl) (by kernel_rfl) ?_ ?_ ?_
     ·exact (Below.refl _ wr).drew
     ·generalize hD:Jai _ = D
      generalize hWA:Jab _ = WA
      generalize hZ:Act.mk _ _ = Z
      refine RV.AllDo.name ?_
      intro R hR
      have d0:D 0 = some 90:=by rw [<- hD];rfl
      have d1:D 1 = some 91:=by rw [<- hD];rfl
      have d2:D 2 = some 92:=by rw [<- hD];rfl
      have d3:D 3 = some 93:=by rw [<- hD];rfl
      have d4:D 4 = some 94:=by rw [<- hD];rfl
      have d5:D 5 = some 95:=by rw [<- hD];rfl
      have d6:D 6 = some 96:=by rw [<- hD];rfl
      have d7:D 7 = some 97:=by rw [<- hD];rfl
      have d8:D 8 = some 98:=by rw [<- hD];rfl
      have d9:D 9 = some 99:=by rw [<- hD];rfl
      have d10:D 10 = some 100:=by rw [<- hD];rfl
      have d11:D 11 = some 101:=by rw [<- hD];rfl
      have d12:D 12 = some 102:=by rw [<- hD];rfl
      have d13:D 13 = some 16:=by rw [<- hD];rfl
      have r0:∀ v w,R 0 v w = (v = .slice ox P.length cx):=fun v w=>by rw [hR];rfl
      have r1:∀ v w,R 1 v w = (v = .pointer (some ⟨w0.heap.size,1,none⟩)):=fun v w=>by rw [hR];rfl
      have r2:∀ v w,R 2 v w = (v = J I r):=fun v w=>by rw [hR];rfl
      have r3:∀ v w,R 3 v w = (v = J I ex):=fun v w=>by rw [hR];rfl
      have r4:∀ v w,R 4 v w = (v = .slice oy P.length cy):=fun v w=>by rw [hR];rfl
      have r5:∀ v w,R 5 v w = (v = .pointer (some ⟨w0.heap.size,1,none⟩)):=fun v w=>by rw [hR];rfl
      have r6:∀ v w,R 6 v w = (v = J I r):=fun v w=>by rw [hR];rfl
      have r7:∀ v w,R 7 v w = (v = J I ey):=fun v w=>by rw [hR];rfl
      have r8:∀ v w,R 8 v w = (v = .slice oz P.length cz):=fun v w=>by rw [hR];rfl
      have r9:∀ v w,R 9 v w = (v = .pointer (some ⟨w0.heap.size,1,none⟩)):=fun v w=>by rw [hR];rfl
      have r10:∀ v w,R 10 v w = (v = J I r):=fun v w=>by rw [hR];rfl
      have r11:∀ v w,R 11 v w = (v = J I ez):=fun v w=>by rw [hR];rfl
      have r12:∀ v w,R 12 v w = ((fun v w=>∃ g9,v = .slice (some ⟨g9,0,none⟩) 3 3/\wr.heap.size <= g9/\Cells w g9 [J I ex,J I ey,J I ez]) v w):=fun v w=>by rw [hR];rfl
      have r13:∀ v w,R 13 v w = ((fun v w=>∃ g9,v = .slice (some ⟨g9,0,none⟩) 3 3/\wr.heap.size <= g9/\Cells w g9 [J I ex,J I ey,J I ez]) v w):=fun v w=>by rw [hR];rfl
      have F2_:∀ j,D j ≠ some 2:=by rw [<- hD];exact RV.dst_free (by kernel_rfl)
      have Z2_:Z.tmps[2]? = some (.pointer (some ⟨w0.heap.size,0,none⟩)):=by rw [<- hZ];rfl
      have F12_:∀ j,D j ≠ some 12:=by rw [<- hD];exact RV.dst_free (by kernel_rfl)
      have Z12_:Z.tmps[12]? = some (.slice ox P.length cx):=by rw [<- hZ];rfl
      have F13_:∀ j,D j ≠ some 13:=by rw [<- hD];exact RV.dst_free (by kernel_rfl)
      have Z13_:Z.tmps[13]? = some (.slice oy P.length cy):=by rw [<- hZ];rfl
      have F14_:∀ j,D j ≠ some 14:=by rw [<- hD];exact RV.dst_free (by kernel_rfl)
      have Z14_:Z.tmps[14]? = some (.slice oz P.length cz):=by rw [<- hZ];rfl
      have K:∀ j v w w',Below w.heap.size w w'->R j v w->R j v w':=by
       rw [hR]
       intro j v w w' hb h
       revert h
       dsimp only
       split
       all_goals first | exact id | exact (fun ⟨g9,t1,t2,t4⟩=>⟨g9,t1,t2,t4.step hb⟩)
      clear hD hWA hZ hR
      refine RV.cc 0 (RV.dp (fun γ v L w hl h=>h) (fun γ L a w hH hl hA=>by have e0:=((hH.rest 12 F12_).trans Z12_);exact ⟨.slice ox P.length cx,by simp [JD,go_sem,e0],(r0 _ _).mpr rfl⟩)) ?_
      refine RV.cc 1 (RV.dp (fun γ v L w hl h=>h) (fun γ L a w hH hl hA=>by have e0:=((hH.rest 2 F2_).trans Z2_);exact ⟨.pointer (some ⟨w0.heap.size,1,none⟩),by simp [JD,go_sem,e0],(r1 _ _).mpr rfl⟩)) ?_
      refine RV.cc 2 (RV.dp (fun γ v L w hl h=>h) (fun γ L a w hH hl hA=>by have e0:=hH.got d1 r1 (hA ⟨1,.data⟩ (by simp) rfl);have z0:=Ja hH.glob q1_;exact ⟨J I r,by simp [JD,go_sem,e0,z0],(r2 _ _).mpr rfl⟩)) ?_
      refine RV.cc 3 (RV.dc (fun γ L a w hH hl hA=>by have e0:=hH.got d0 r0 (hA ⟨0,.data⟩ (by simp) rfl);have e1:=hH.got d2 r2 (hA ⟨2,.data⟩ (by simp) rfl);exact ⟨82,#[.slice ox P.length cx,J I r],by simp [go_sem,e0,e1],JA (H1.out w _ (LiesI.below LI1.out hH.glob)) (by rintro e w2 ⟨rfl,hb⟩;exact ⟨_,rfl,(r3 _ _).mpr rfl,fun j v _ h=>K j v _ _ hb h,hH.glob.trans (hb.mono hH.glob.size)⟩)⟩)) ?_
      refine RV.cc 4 (RV.dp (fun γ v L w hl h=>h) (fun γ L a w hH hl hA=>by have e0:=((hH.rest 13 F13_).trans Z13_);exact ⟨.slice oy P.length cy,by simp [JD,go_sem,e0],(r4 _ _).mpr rfl⟩)) ?_
      refine RV.cc 5 (RV.dp (fun γ v L w hl h=>h) (fun γ L a w hH hl hA=>by have e0:=((hH.rest 2 F2_).trans Z2_);exact ⟨.pointer (some ⟨w0.heap.size,1,none⟩),by simp [JD,go_sem,e0],(r5 _ _).mpr rfl⟩)) ?_
      refine RV.cc 6 (RV.dp (fun γ v L w hl h=>h) (fun γ L a w hH hl hA=>by have e0:=hH.got d5 r5 (hA ⟨5,.data⟩ (by simp) rfl);have z0:=Ja hH.glob q1_;exact ⟨J I r,by simp [JD,go_sem,e0,z0],(r6 _ _).mpr rfl⟩)) ?_
      refine RV.cc 7 (RV.dc (fun γ L a w hH hl hA=>by have e0:=hH.got d4 r4 (hA ⟨4,.data⟩ (by simp) rfl);have e1:=hH.got d6 r6 (hA ⟨6,.data⟩ (by simp) rfl);exact ⟨82,#[.slice oy P.length cy,J I r],by simp [go_sem,e0,e1],JA (H2.out w _ (LiesI.below LI2.out hH.glob)) (by rintro e w2 ⟨rfl,hb⟩;exact ⟨_,rfl,(r7 _ _).mpr rfl,fun j v _ h=>K j v _ _ hb h,hH.glob.trans (hb.mono hH.glob.size)⟩)⟩)) ?_
      refine RV.cc 8 (RV.dp (fun γ v L w hl h=>h) (fun γ L a w hH hl hA=>by have e0:=((hH.rest 14 F14_).trans Z14_);exact ⟨.slice oz P.length cz,by simp [JD,go_sem,e0],(r8 _ _).mpr rfl⟩)) ?_
      refine RV.cc 9 (RV.dp (fun γ v L w hl h=>h) (fun γ L a w hH hl hA=>by have e0:=((hH.rest 2 F2_).trans Z2_);exact ⟨.pointer (some ⟨w0.heap.size,1,none⟩),by simp [JD,go_sem,e0],(r9 _ _).mpr rfl⟩)) ?_
      refine RV.cc 10 (RV.dp (fun γ v L w hl h=>h) (fun γ L a w hH hl hA=>by have e0:=hH.got d9 r9 (hA ⟨9,.data⟩ (by simp) rfl);have z0:=Ja hH.glob q1_;exact ⟨J I r,by simp [JD,go_sem,e0,z0],(r10 _ _).mpr rfl⟩)) ?_
      refine RV.cc 11 (RV.dc (fun γ L a w hH hl hA=>by have e0:=hH.got d8 r8 (hA ⟨8,.data⟩ (by simp) rfl);have e1:=hH.got d10 r10 (hA ⟨10,.data⟩ (by simp) rfl);exact ⟨82,#[.slice oz P.length cz,J I r],by simp [go_sem,e0,e1],JA (H3.out w _ (LiesI.below LI3.out hH.glob)) (by rintro e w2 ⟨rfl,hb⟩;exact ⟨_,rfl,(r11 _ _).mpr rfl,fun j v _ h=>K j v _ _ hb h,hH.glob.trans (hb.mono hH.glob.size)⟩)⟩)) ?_
      refine RV.cc 12 (RV.does_step (fun γ L a w hH hl hA=>by have e0:=hH.got d3 r3 (hA ⟨3,.data⟩ (by simp) rfl);have e1:=hH.got d7 r7 (hA ⟨7,.data⟩ (by simp) rfl);have e2:=hH.got d11 r11 (hA ⟨11,.data⟩ (by simp) rfl);exact ⟨.slice (some ⟨w.heap.size,0,none⟩) 3 3,w.alloc (.cells #[J I ex,J I ey,J I ez] 3),by simp [JD,go_sem,e0,e1,e2],(r12 _ _).mpr ⟨w.heap.size,rfl,hH.glob.size,Cells.new w [J I ex,J I ey,J I ez] _⟩,fun j v _ h=>K j v _ _ (Jb w _) h,hH.glob.trans ((Jb w _).mono hH.glob.size)⟩)) ?_
      refine RV.cc 13 (RV.dp (fun γ v L w hl h=>h) (fun γ L a w hH hl hA=>by have l0:L 12 = true:=hA ⟨12,.data⟩ (by simp) rfl;have e0:=hH.slot 12 102 d12 l0;have g0:=hH.holds 12 l0;rw [r12] at g0;exact ⟨γ 12,by simp [JD,go_sem,e0],(r13 _ _).mpr g0⟩)) ?_
      exact RV.AllDo.nil
     ·intro γ a5 w5 L9 hL hLo hH
      have ha:=RV.held_act hH hL (by kernel_rfl) (by kernel_rfl)
      obtain ⟨ge,y31,yg,yat⟩:∃ g9,γ 13 = .slice (some ⟨g9,0,none⟩) 3 3/\wr.heap.size <= g9/\Cells w5 g9 [J I ex,J I ey,J I ez]:=hH.holds 13 (hL 13 (by decide))
      have hb9:=hH.glob
      rw [ha]
      clear ha hH hL hLo
      simp only [RV.putAll,Act.put,JH,JG,JF,Nat.zero_add,Nat.reduceAdd]
      rw [y31]
      obtain ⟨Wc,hWc⟩:∃ X:World,X = w5:=⟨_,rfl⟩
      have BE:Hid (Cells Wc ge [J I ex,J I ey,J I ez]):=by rw [hWc];exact yat
      have HB:Hid (Below Wb.heap.size Wb Wc):=by rw [hWc];exact Jf HN.out.below hb9
      rw [<- hWc]
      clear hWc y31 yat yg hb9 HN H1 H2 H3 LI1 LI2 LI3 q1_
      have BW:Hid _:=Cells.step BW.out HB.out
      have HQ:Hid (∀ j:Nat,j < 3->∃ ej rj qj:Int,[ex,ey,ez][j]? = some ej/\[sqM m ex,sqM m ey,sqM m ez][j]? = some qj/\mul ej ej = some rj/\mul m rj = some qj):=fun j hj=>by
       match j,hj with
       | 0,_=>exact ⟨ex,_,_,rfl,rfl,Jjw RX.out.1 RX.out.2,Jgu (by omega) hm1 RX.out.1 RX.out.2⟩
       | 1,_=>exact ⟨ey,_,_,rfl,rfl,Jjw RY.out.1 RY.out.2,Jgu (by omega) hm1 RY.out.1 RY.out.2⟩
       | 2,_=>exact ⟨ez,_,_,rfl,rfl,Jjw RZ.out.1 RZ.out.2,Jgu (by omega) hm1 RZ.out.1 RZ.out.2⟩
      have sx:=Jel (m:=m) (by omega) hm1 RX.out.1 RX.out.2
      have sy:=Jel (m:=m) (by omega) hm1 RY.out.1 RY.out.2
      have sz:=Jel (m:=m) (by omega) hm1 RZ.out.1 RZ.out.2
      unfold Jjp at E1 E2 E3
      generalize sqM m ex = qx at *
      generalize sqM m ey = qy at *
      generalize sqM m ez = qz at *
      have SXX:Hid _:=sx
      have SYY:Hid _:=sy
      have SZZ:Hid _:=sz
      clear sx sy sz RX RY RZ
      go_wp2_with (fail)
      go_loopg [17,18] 3 (fun gm s17 s18 wz=>∃ (jq:Nat) (oq:Option Addr) (cq:Nat),s17 = .slice oq jq cq/\s18 = J I (jq:Int)/\jq <= 3/\gm = 3 - jq/\Hid (wz.ownsRow Wc.heap.size 3 1 (.slice oq jq cq) jq (([qx,qy,qz].take jq).map (.int .i64))/\Below Wc.heap.size Wc wz))
      case atStart=>exact ⟨0,none,0,rfl,rfl,by omega,rfl,World.ownsRow_nil _ _ _ _,Below.refl _ _⟩
      case round =>
       obtain ⟨jq,oq,cq,rfl,rfl,hj,hgm,HO⟩:=hrel
       have HG2:Hid _:=hgm
       clear hgm
       by_cases hjt:jq < 3
       ·obtain ⟨ej,rj,qj,h1_,h2_,h3_,h4_⟩:=HQ.out jq hjt
        have M1:Hid _:=fun w' (hu:Cells w' b8 [.bool false])=>RF.rmul_ok b8 ej ej _ w' (hu 0 _ rfl).1 (hu 0 _ rfl).2 h3_
        have M2:Hid _:=fun w' (hu:Cells w' b8 [.bool false])=>RF.rmul_ok b8 m _ _ w' (hu 0 _ rfl).1 (hu 0 _ rfl).2 h4_
        have x0_:wr.cell? ⟨ge,jq,none⟩ = some (J I ej):=Ja HO.out.2 (BE.out jq (J I ej) (by have:[Value.int .i64 ex,J I ey,J I ez] = [ex,ey,ez].map (.int .i64):=rfl;rw [this,List.getElem?_map,h1_];rfl)).1
        have HTK:Hid (([qx,qy,qz].take jq).map (Value.int .i64) ++ [J I qj] = ([qx,qy,qz].take (jq + 1)).map (.int .i64)):=by
         show _ = _
         have hl3:jq < [qx,qy,qz].length:=hjt
         rw [List.take_succ_eq_append_getElem hl3,List.map_append]
         rw [List.getElem?_eq_getElem hl3] at h2_
         cases h2_
         rfl
        have hjz:(jq:Int) < 3:=by omega
        have UW:Hid _:=Cells.step BW.out HO.out.2
        clear h1_ h2_ h3_ h4_
        go_upto_region 26 with fail
        refine RV.region_by (fun j v w=>match j with | 0=>v = .slice oq jq cq | 1=>v = .pointer (some ⟨b8,0,none⟩) | 2=>v = J I m | 3=>v = .pointer (some ⟨b8,0,none⟩) | 4=>v = .slice (some ⟨ge,0,none⟩) 3 3 | 5=>v = J I (jq:Int) | 6=>v = .pointer (some ⟨ge,jq,none⟩) | 7=>v = J I ej | 8=>v = .slice (some ⟨ge,0,none⟩) 3 3 | 9=>v = J I (jq:Int) | 10=>v = .pointer (some ⟨ge,jq,none⟩) | 11=>v = J I ej | 12=>v = J I rj | 13=>v = J I qj | 14=>True | 15=>True | 16=>True | _=>True) (fun γ L w=>A9 14 15 wr Wc.heap.size (.slice oq jq cq) jq (([qx,qy,qz].take jq).map (.int .i64)) (J I qj) γ L w/\(L 16 = true->γ 16 = γ 15)) (by kernel_rfl) (by kernel_rfl) (by kernel_rfl) (by kernel_rfl) ?_ ?_ ?_
        ·exact ⟨Or.inl ⟨rfl,(Below.refl _ wr).drew,fun e=>by cases e⟩,fun e=>by cases e⟩
        ·generalize hD:Jai _ = D
         generalize hWA:Jab _ = WA
         generalize hZ:Act.mk _ _ = Z
         refine RV.AllDo.name ?_
         intro R hR
         have d0:D 0 = some 107:=by rw [<- hD];rfl
         have d1:D 1 = some 108:=by rw [<- hD];rfl
         have d2:D 2 = some 109:=by rw [<- hD];rfl
         have d3:D 3 = some 110:=by rw [<- hD];rfl
         have d4:D 4 = some 111:=by rw [<- hD];rfl
         have d5:D 5 = some 112:=by rw [<- hD];rfl
         have d6:D 6 = some 113:=by rw [<- hD];rfl
         have d7:D 7 = some 114:=by rw [<- hD];rfl
         have d8:D 8 = some 115:=by rw [<- hD];rfl
         have d9:D 9 = some 116:=by rw [<- hD];rfl
         have d10:D 10 = some 117:=by rw [<- hD];rfl
         have d11:D 11 = some 118:=by rw [<- hD];rfl
         have d12:D 12 = some 119:=by rw [<- hD];rfl
         have d13:D 13 = some 120:=by rw [<- hD];rfl
         have d14:D 14 = some 121:=by rw [<- hD];rfl
         have d15:D 15 = some 122:=by rw [<- hD];rfl
         have d16:D 16 = some 17:=by rw [<- hD];rfl
         have r0:∀ v w,R 0 v w = (v = .slice oq jq cq):=fun v w=>by rw [hR];rfl
         have r1:∀ v w,R 1 v w = (v = .pointer (some ⟨b8,0,none⟩)):=fun v w=>by rw [hR];rfl
         have r2:∀ v w,R 2 v w = (v = J I m):=fun v w=>by rw [hR];rfl
         have r3:∀ v w,R 3 v w = (v = .pointer (some ⟨b8,0,none⟩)):=fun v w=>by rw [hR];rfl
         have r4:∀ v w,R 4 v w = (v = .slice (some ⟨ge,0,none⟩) 3 3):=fun v w=>by rw [hR];rfl
         have r5:∀ v w,R 5 v w = (v = J I (jq:Int)):=fun v w=>by rw [hR];rfl
         have r6:∀ v w,R 6 v w = (v = .pointer (some ⟨ge,jq,none⟩)):=fun v w=>by rw [hR];rfl
         have r7:∀ v w,R 7 v w = (v = J I ej):=fun v w=>by rw [hR];rfl
         have r8:∀ v w,R 8 v w = (v = .slice (some ⟨ge,0,none⟩) 3 3):=fun v w=>by rw [hR];rfl
         have r9:∀ v w,R 9 v w = (v = J I (jq:Int)):=fun v w=>by rw [hR];rfl
         have r10:∀ v w,R 10 v w = (v = .pointer (some ⟨ge,jq,none⟩)):=fun v w=>by rw [hR];rfl
         have r11:∀ v w,R 11 v w = (v = J I ej):=fun v w=>by rw [hR];rfl
         have r12:∀ v w,R 12 v w = (v = J I rj):=fun v w=>by rw [hR];rfl
         have r13:∀ v w,R 13 v w = (v = J I qj):=fun v w=>by rw [hR];rfl
         have r14:∀ v w,R 14 v w = (True):=fun v w=>by rw [hR];rfl
         have r15:∀ v w,R 15 v w = (True):=fun v w=>by rw [hR];rfl
         have r16:∀ v w,R 16 v w = (True):=fun v w=>by rw [hR];rfl
         have X17:∀ j,D j = some 17->j = 16:=fun j hj=>by rw [<- hD] at hj;exact Jh9 (by kernel_rfl) hj rfl
         have Y17:Z.tmps[17]? = some (.slice oq jq cq):=by rw [<- hZ];rfl
         have LA_16_0:WA 16 0:=by rw [<- hWA];exact ⟨_,rfl,⟨0,.phase⟩,by simp,rfl,rfl⟩
         have F1_:∀ j,D j ≠ some 1:=by rw [<- hD];exact RV.dst_free (by kernel_rfl)
         have Z1_:Z.tmps[1]? = some (J I m):=by rw [<- hZ];rfl
         have F8_:∀ j,D j ≠ some 8:=by rw [<- hD];exact RV.dst_free (by kernel_rfl)
         have Z8_:Z.tmps[8]? = some (.pointer (some ⟨b8,0,none⟩)):=by rw [<- hZ];rfl
         have F16_:∀ j,D j ≠ some 16:=by rw [<- hD];exact RV.dst_free (by kernel_rfl)
         have Z16_:Z.tmps[16]? = some (.slice (some ⟨ge,0,none⟩) 3 3):=by rw [<- hZ];rfl
         have F18_:∀ j,D j ≠ some 18:=by rw [<- hD];exact RV.dst_free (by kernel_rfl)
         have Z18_:Z.tmps[18]? = some (J I (jq:Int)):=by rw [<- hZ];rfl
         have K:∀ j v w w',R j v w->R j v w':=by rw [hR];intro j v w w' h;exact h
         have A_15_14:WA 15 14:=by rw [<- hWA];exact ⟨_,rfl,⟨14,.data⟩,by simp,rfl,rfl⟩
         have A_14_13:WA 14 13:=by rw [<- hWA];exact ⟨_,rfl,⟨13,.data⟩,by simp,rfl,rfl⟩
         have A_13_12:WA 13 12:=by rw [<- hWA];exact ⟨_,rfl,⟨12,.data⟩,by simp,rfl,rfl⟩
         have A_12_7:WA 12 7:=by rw [<- hWA];exact ⟨_,rfl,⟨7,.data⟩,by simp,rfl,rfl⟩
         have A_12_11:WA 12 11:=by rw [<- hWA];exact ⟨_,rfl,⟨11,.data⟩,by simp,rfl,rfl⟩
         have A_16_15:WA 16 15:=by rw [<- hWA];exact ⟨_,rfl,⟨15,.data⟩,by simp,rfl,rfl⟩
         clear hD hWA hZ hR
         refine RV.cc 0 (RV.dp (fun γ v L w hl h=>⟨A9.other h.1 _ (by decide) (by decide),fun e=>by rw [RV.mn (by decide)] at e;rw [RV.upd_ne _ _ (by decide),RV.upd_ne _ _ (by decide)];exact h.2 e⟩) (fun γ L a w hH hl hA=>by have e0:=(hH.early 17 (fun j hj=>by rw [X17 j hj];exact RV.ny hH LA_16_0 hl)).trans Y17;exact ⟨.slice oq jq cq,by simp [JD,go_sem,e0],(r0 _ _).mpr rfl⟩)) ?_
         refine RV.cc 1 (RV.dp (fun γ v L w hl h=>⟨A9.other h.1 _ (by decide) (by decide),fun e=>by rw [RV.mn (by decide)] at e;rw [RV.upd_ne _ _ (by decide),RV.upd_ne _ _ (by decide)];exact h.2 e⟩) (fun γ L a w hH hl hA=>by have e0:=((hH.rest 8 F8_).trans Z8_);exact ⟨.pointer (some ⟨b8,0,none⟩),by simp [JD,go_sem,e0],(r1 _ _).mpr rfl⟩)) ?_
         refine RV.cc 2 (RV.dp (fun γ v L w hl h=>⟨A9.other h.1 _ (by decide) (by decide),fun e=>by rw [RV.mn (by decide)] at e;rw [RV.upd_ne _ _ (by decide),RV.upd_ne _ _ (by decide)];exact h.2 e⟩) (fun γ L a w hH hl hA=>by have e0:=((hH.rest 1 F1_).trans Z1_);exact ⟨J I m,by simp [JD,go_sem,e0],(r2 _ _).mpr rfl⟩)) ?_
         refine RV.cc 3 (RV.dp (fun γ v L w hl h=>⟨A9.other h.1 _ (by decide) (by decide),fun e=>by rw [RV.mn (by decide)] at e;rw [RV.upd_ne _ _ (by decide),RV.upd_ne _ _ (by decide)];exact h.2 e⟩) (fun γ L a w hH hl hA=>by have e0:=((hH.rest 8 F8_).trans Z8_);exact ⟨.pointer (some ⟨b8,0,none⟩),by simp [JD,go_sem,e0],(r3 _ _).mpr rfl⟩)) ?_
         refine RV.cc 4 (RV.dp (fun γ v L w hl h=>⟨A9.other h.1 _ (by decide) (by decide),fun e=>by rw [RV.mn (by decide)] at e;rw [RV.upd_ne _ _ (by decide),RV.upd_ne _ _ (by decide)];exact h.2 e⟩) (fun γ L a w hH hl hA=>by have e0:=((hH.rest 16 F16_).trans Z16_);exact ⟨.slice (some ⟨ge,0,none⟩) 3 3,by simp [JD,go_sem,e0],(r4 _ _).mpr rfl⟩)) ?_
         refine RV.cc 5 (RV.dp (fun γ v L w hl h=>⟨A9.other h.1 _ (by decide) (by decide),fun e=>by rw [RV.mn (by decide)] at e;rw [RV.upd_ne _ _ (by decide),RV.upd_ne _ _ (by decide)];exact h.2 e⟩) (fun γ L a w hH hl hA=>by have e0:=((hH.rest 18 F18_).trans Z18_);exact ⟨J I (jq:Int),by simp [JD,go_sem,e0],(r5 _ _).mpr rfl⟩)) ?_
         refine RV.cc 6 (RV.dp (fun γ v L w hl h=>⟨A9.other h.1 _ (by decide) (by decide),fun e=>by rw [RV.mn (by decide)] at e;rw [RV.upd_ne _ _ (by decide),RV.upd_ne _ _ (by decide)];exact h.2 e⟩) (fun γ L a w hH hl hA=>by have e0:=hH.got d4 r4 (hA ⟨4,.data⟩ (by simp) rfl);have e1:=hH.got d5 r5 (hA ⟨5,.data⟩ (by simp) rfl);exact ⟨.pointer (some ⟨ge,jq,none⟩),by simp [JD,go_sem,e0,e1,hjz],(r6 _ _).mpr rfl⟩)) ?_
         refine RV.cc 7 (RV.dp (fun γ v L w hl h=>⟨A9.other h.1 _ (by decide) (by decide),fun e=>by rw [RV.mn (by decide)] at e;rw [RV.upd_ne _ _ (by decide),RV.upd_ne _ _ (by decide)];exact h.2 e⟩) (fun γ L a w hH hl hA=>by have e0:=hH.got d6 r6 (hA ⟨6,.data⟩ (by simp) rfl);have z0:=Ja (A9.early hH.glob.1 (RV.ny hH A_15_14 (RV.ny hH A_14_13 (RV.ny hH A_13_12 (RV.ny hH A_12_7 hl))))).1 x0_;exact ⟨J I ej,by simp [JD,go_sem,e0,z0],(r7 _ _).mpr rfl⟩)) ?_
         refine RV.cc 8 (RV.dp (fun γ v L w hl h=>⟨A9.other h.1 _ (by decide) (by decide),fun e=>by rw [RV.mn (by decide)] at e;rw [RV.upd_ne _ _ (by decide),RV.upd_ne _ _ (by decide)];exact h.2 e⟩) (fun γ L a w hH hl hA=>by have e0:=((hH.rest 16 F16_).trans Z16_);exact ⟨.slice (some ⟨ge,0,none⟩) 3 3,by simp [JD,go_sem,e0],(r8 _ _).mpr rfl⟩)) ?_
         refine RV.cc 9 (RV.dp (fun γ v L w hl h=>⟨A9.other h.1 _ (by decide) (by decide),fun e=>by rw [RV.mn (by decide)] at e;rw [RV.upd_ne _ _ (by decide),RV.upd_ne _ _ (by decide)];exact h.2 e⟩) (fun γ L a w hH hl hA=>by have e0:=((hH.rest 18 F18_).trans Z18_);exact ⟨J I (jq:Int),by simp [JD,go_sem,e0],(r9 _ _).mpr rfl⟩)) ?_
         refine RV.cc 10 (RV.dp (fun γ v L w hl h=>⟨A9.other h.1 _ (by decide) (by decide),fun e=>by rw [RV.mn (by decide)] at e;rw [RV.upd_ne _ _ (by decide),RV.upd_ne _ _ (by decide)];exact h.2 e⟩) (fun γ L a w hH hl hA=>by have e0:=hH.got d8 r8 (hA ⟨8,.data⟩ (by simp) rfl);have e1:=hH.got d9 r9 (hA ⟨9,.data⟩ (by simp) rfl);exact ⟨.pointer (some ⟨ge,jq,none⟩),by simp [JD,go_sem,e0,e1,hjz],(r10 _ _).mpr rfl⟩)) ?_
         refine RV.cc 11 (RV.dp (fun γ v L w hl h=>⟨A9.other h.1 _ (by decide) (by decide),fun e=>by rw [RV.mn (by decide)] at e;rw [RV.upd_ne _ _ (by decide),RV.upd_ne _ _ (by decide)];exact h.2 e⟩) (fun γ L a w hH hl hA=>by have e0:=hH.got d10 r10 (hA ⟨10,.data⟩ (by simp) rfl);have z0:=Ja (A9.early hH.glob.1 (RV.ny hH A_15_14 (RV.ny hH A_14_13 (RV.ny hH A_13_12 (RV.ny hH A_12_11 hl))))).1 x0_;exact ⟨J I ej,by simp [JD,go_sem,e0,z0],(r11 _ _).mpr rfl⟩)) ?_
         refine RV.cc 12 (RV.dc (fun γ L a w hH hl hA=>by have e0:=hH.got d3 r3 (hA ⟨3,.data⟩ (by simp) rfl);have e1:=hH.got d7 r7 (hA ⟨7,.data⟩ (by simp) rfl);have e2:=hH.got d11 r11 (hA ⟨11,.data⟩ (by simp) rfl);have q15:L 15 = false:=RV.ny hH A_15_14 (RV.ny hH A_14_13 (RV.ny hH A_13_12 hl));have y:=A9.early hH.glob.1 q15;exact ⟨66,#[.pointer (some ⟨b8,0,none⟩),J I ej,J I ej],by simp [go_sem,e0,e1,e2],JA (M1.out w (Cells.step UW.out y.1)) (by rintro e w2 ⟨rfl,hb⟩;exact ⟨_,rfl,(r12 _ _).mpr rfl,fun j v _ h=>K j v _ _ h,A9.call hH.glob.1 q15 hb _ (by decide) (by decide),fun e=>by rw [RV.mn (by decide)] at e;rw [RV.upd_ne _ _ (by decide),RV.upd_ne _ _ (by decide)];exact hH.glob.2 e⟩)⟩)) ?_
         refine RV.cc 13 (RV.dc (fun γ L a w hH hl hA=>by have e0:=hH.got d1 r1 (hA ⟨1,.data⟩ (by simp) rfl);have e1:=hH.got d2 r2 (hA ⟨2,.data⟩ (by simp) rfl);have e2:=hH.got d12 r12 (hA ⟨12,.data⟩ (by simp) rfl);have q15:L 15 = false:=RV.ny hH A_15_14 (RV.ny hH A_14_13 hl);have y:=A9.early hH.glob.1 q15;exact ⟨66,#[.pointer (some ⟨b8,0,none⟩),J I m,J I rj],by simp [go_sem,e0,e1,e2],JA (M2.out w (Cells.step UW.out y.1)) (by rintro e w2 ⟨rfl,hb⟩;exact ⟨_,rfl,(r13 _ _).mpr rfl,fun j v _ h=>K j v _ _ h,A9.call hH.glob.1 q15 hb _ (by decide) (by decide),fun e=>by rw [RV.mn (by decide)] at e;rw [RV.upd_ne _ _ (by decide),RV.upd_ne _ _ (by decide)];exact hH.glob.2 e⟩)⟩)) ?_
         refine RV.cc 14 (RV.does_step (fun γ L a w hH hl hA=>by have e0:=hH.got d13 r13 (hA ⟨13,.data⟩ (by simp) rfl);exact ⟨.slice (some ⟨w.heap.size,0,none⟩) 1 1,w.alloc (.cells #[J I qj] 3),by simp [JD,go_sem,e0],(r14 _ _).mpr trivial,fun j v _ h=>K j v _ _ h,A9.lay hH.glob.1 (RV.ny hH A_15_14 hl) (by decide),fun e=>by rw [RV.mn (by decide)] at e;rw [RV.upd_ne _ _ (by decide),RV.upd_ne _ _ (by decide)];exact hH.glob.2 e⟩)) ?_
         refine RV.cc 15 (RV.does_step (fun γ L a w hH hl hA=>by have e0:=hH.got d0 r0 (hA ⟨0,.data⟩ (by simp) rfl);have l1:L 14 = true:=hA ⟨14,.data⟩ (by simp) rfl;have e1:=hH.slot 14 121 d14 l1;have g1:=hH.holds 14 l1;rw [r14] at g1;obtain ⟨y2,y3⟩:=A9.early hH.glob.1 hl;obtain ⟨g9,t1,t2⟩:=y3 l1;rw [t1] at e1;have q16:L 16 = false:=RV.ny hH A_16_15 hl;obtain ⟨v9,w9,t3,t4,t5⟩:=Jgk (P:=Tryz.prog) (w:=w) (a:=a) (.tmp 107) (.tmp 121) 108 108 Wc.heap.size 3 j0 _ 1 8 underlying108 HJ.out.1 HJ.out.2.1 HJ.out.2.2.1 HJ.out.2.2.2 rfl (by decide) (.slice oq jq cq) jq _ (by simp [go_sem,e0]) (Jq HO.out.1 y2) ⟨g9,0,none⟩ 1 1 [J I qj] (by simp [go_sem,e1]) rfl (Jtn t2) (by intro u hu;simp at hu;rw [hu];rfl) (by unfold maxLen;omega) (by omega) (Nat.le_trans HO.out.2.size y2.size);exact ⟨v9,w9,t3 _ rfl rfl,(r15 _ _).mpr trivial,fun j v _ h=>K j v _ _ h,A9.app t4 ((Grew.below y2 _).trans t5),fun e=>by rw [RV.mn (by decide),q16] at e;cases e⟩)) ?_
         refine RV.cc 16 (RV.does_step (fun γ L a w hH hl hA=>by have l0:L 15 = true:=hA ⟨15,.data⟩ (by simp) rfl;have e0:=hH.slot 15 122 d15 l0;have g0:=hH.holds 15 l0;rw [r15] at g0;exact ⟨γ 15,w,by simp [JD,go_sem,e0],(r16 _ _).mpr trivial,fun j v _ h=>h,A9.other hH.glob.1 _ (by decide) (by decide),fun e=>by rw [RV.upd_self,RV.upd_ne _ _ (by decide)]⟩)) ?_
         exact RV.AllDo.nil
        ·intro γ a5 w5 L9 hL hLo hH
         have ha:=RV.held_act hH hL (by kernel_rfl) (by kernel_rfl)
         obtain ⟨y1,y2⟩:=A9.done hH.glob.1 (hL 15 (by decide))
         have y3:=hH.glob.2 (hL 16 (by decide))
         rw [ha]
         clear ha hH hL hLo
         simp only [RV.putAll,Act.put,JH,JG,JF,Nat.zero_add,Nat.reduceAdd]
         rw [y3]
         rw [HTK.out] at y1
         have y4:=y2.on HO.out.2 HO.out.1 HO.out.2.size
         generalize γ 15 = u9 at *
         obtain ⟨o9,c9,rfl⟩:=Jfo y1
         have HO:Hid _:=And.intro y1 y4
         clear y1 y2 y3 y4 x0_ M1 M2 HTK UW
         go_wp2_with (fail)
         go_roundg (3 - (jq + 1))
         case measure=>have:=HG2.out;omega
         case rel=>exact ⟨jq + 1,o9,c9,rfl,by go_num,by omega,rfl,HO⟩
       ·have e:jq = 3:=by omega
        subst e
        have LQ:LiesI wr (.slice oq 3 cq) [qx,qy,qz]:=LiesI.of_row (base:=Wc.heap.size) HO.out.1
        obtain ⟨_,_,e9,_,_,hc9⟩:=LQ.form
        cases e9
        obtain ⟨gq,e9,y0_⟩:=hc9 0 (by simp)
        subst e9
        obtain ⟨g',e',y1_⟩:=hc9 1 (by simp)
        cases e'
        obtain ⟨g',e',y2_⟩:=hc9 2 (by simp)
        cases e'
        simp at y0_ y1_ y2_
        clear hc9 LQ
        have hB7:Hid _:=Jf HB.out HO.out.2
        have UW:Hid _:=Cells.step BW.out HO.out.2
        have A1:Hid _:=fun w' (hu:Cells w' b8 [.bool false])=>RF.radd_ok b8 qy qz _ w' (hu 0 _ rfl).1 (hu 0 _ rfl).2 (Ji9 SYY.out.1 SYY.out.2 SZZ.out.1 SZZ.out.2)
        have A2:Hid _:=fun w' (hu:Cells w' b8 [.bool false])=>RF.radd_ok b8 qz qx _ w' (hu 0 _ rfl).1 (hu 0 _ rfl).2 (Ji9 SZZ.out.1 SZZ.out.2 SXX.out.1 SXX.out.2)
        have A3:Hid _:=fun w' (hu:Cells w' b8 [.bool false])=>RF.radd_ok b8 qx qy _ w' (hu 0 _ rfl).1 (hu 0 _ rfl).2 (Ji9 SXX.out.1 SXX.out.2 SYY.out.1 SYY.out.2)
        have B1_:Hid _:=fun w' (hu:Cells w' b8 [.bool false])=>RF.rratio_ok b8 (qy + qz) 1 3 ix w' (hu 0 _ rfl).1 (hu 0 _ rfl).2 (by rw [E1.out];exact Jge (by have:=SYY.out;have:=SZZ.out;omega) (by have:=SYY.out;have:=SZZ.out;omega))
        have B2_:Hid _:=fun w' (hu:Cells w' b8 [.bool false])=>RF.rratio_ok b8 (qz + qx) 1 3 iy w' (hu 0 _ rfl).1 (hu 0 _ rfl).2 (by rw [E2.out];exact Jge (by have:=SXX.out;have:=SZZ.out;omega) (by have:=SXX.out;have:=SZZ.out;omega))
        have B3_:Hid _:=fun w' (hu:Cells w' b8 [.bool false])=>RF.rratio_ok b8 (qx + qy) 1 3 iz w' (hu 0 _ rfl).1 (hu 0 _ rfl).2 (by rw [E3.out];exact Jge (by have:=SYY.out;have:=SXX.out;omega) (by have:=SYY.out;have:=SXX.out;omega))
        go_upto_region 27 with fail
        refine RV.region_by (fun j v w=>match j with | 0=>v = .pointer (some ⟨b8,0,none⟩) | 1=>v = .pointer (some ⟨b8,0,none⟩) | 2=>v = .slice (some ⟨gq,0,none⟩) 3 cq | 3=>v = .pointer (some ⟨gq,1,none⟩) | 4=>v = J I qy | 5=>v = .slice (some ⟨gq,0,none⟩) 3 cq | 6=>v = .pointer (some ⟨gq,2,none⟩) | 7=>v = J I qz | 8=>v = J I (qy + qz) | 9=>v = J I ix | 10=>v = .pointer (some ⟨b8,0,none⟩) | 11=>v = .pointer (some ⟨b8,0,none⟩) | 12=>v = .slice (some ⟨gq,0,none⟩) 3 cq | 13=>v = .pointer (some ⟨gq,2,none⟩) | 14=>v = J I qz | 15=>v = .slice (some ⟨gq,0,none⟩) 3 cq | 16=>v = .pointer (some ⟨gq,0,none⟩) | 17=>v = J I qx | 18=>v = J I (qz + qx) | 19=>v = J I iy | 20=>v = .pointer (some ⟨b8,0,none⟩) | 21=>v = .pointer (some ⟨b8,0,none⟩) | 22=>v = .slice (some ⟨gq,0,none⟩) 3 cq | 23=>v = .pointer (some ⟨gq,0,none⟩) | 24=>v = J I qx | 25=>v = .slice (some ⟨gq,0,none⟩) 3 cq | 26=>v = .pointer (some ⟨gq,1,none⟩) | 27=>v = J I qy | 28=>v = J I (qx + qy) | 29=>v = J I iz | 30=>(fun v w=>∃ g9,v = .slice (some ⟨g9,0,none⟩) 3 3/\wr.heap.size <= g9/\Cells w g9 [J I ix,J I iy,J I iz]) v w | 31=>(fun v w=>∃ g9,v = .slice (some ⟨g9,0,none⟩) 3 3/\wr.heap.size <= g9/\Cells w g9 [J I ix,J I iy,J I iz]) v w | _=>True) (fun γ L w=>Below wr.heap.size wr w) (by kernel_rfl) (by kernel_rfl) (by kernel_rfl) (by kernel_rfl) ?_ ?_ ?_
        ·exact (Below.refl _ wr).drew
        ·generalize hD:Jai _ = D
         generalize hWA:Jab _ = WA
         generalize hZ:Act.mk _ _ = Z
         refine RV.AllDo.name ?_
         intro R hR
         have d0:D 0 = some 123:=by rw [<- hD];rfl
         have d1:D 1 = some 124:=by rw [<- hD];rfl
         have d2:D 2 = some 125:=by rw [<- hD];rfl
         have d3:D 3 = some 126:=by rw [<- hD];rfl
         have d4:D 4 = some 127:=by rw [<- hD];rfl
         have d5:D 5 = some 128:=by rw [<- hD];rfl
         have d6:D 6 = some 129:=by rw [<- hD];rfl
         have d7:D 7 = some 130:=by rw [<- hD];rfl
         have d8:D 8 = some 131:=by rw [<- hD];rfl
         have d9:D 9 = some 132:=by rw [<- hD];rfl
         have d10:D 10 = some 133:=by rw [<- hD];rfl
         have d11:D 11 = some 134:=by rw [<- hD];rfl
         have d12:D 12 = some 135:=by rw [<- hD];rfl
         have d13:D 13 = some 136:=by rw [<- hD];rfl
         have d14:D 14 = some 137:=by rw [<- hD];rfl
         have d15:D 15 = some 138:=by rw [<- hD];rfl
         have d16:D 16 = some 139:=by rw [<- hD];rfl
         have d17:D 17 = some 140:=by rw [<- hD];rfl
         have d18:D 18 = some 141:=by rw [<- hD];rfl
         have d19:D 19 = some 142:=by rw [<- hD];rfl
         have d20:D 20 = some 143:=by rw [<- hD];rfl
         have d21:D 21 = some 144:=by rw [<- hD];rfl
         have d22:D 22 = some 145:=by rw [<- hD];rfl
         have d23:D 23 = some 146:=by rw [<- hD];rfl
         have d24:D 24 = some 147:=by rw [<- hD];rfl
         have d25:D 25 = some 148:=by rw [<- hD];rfl
         have d26:D 26 = some 149:=by rw [<- hD];rfl
         have d27:D 27 = some 150:=by rw [<- hD];rfl
         have d28:D 28 = some 151:=by rw [<- hD];rfl
         have d29:D 29 = some 152:=by rw [<- hD];rfl
         have d30:D 30 = some 153:=by rw [<- hD];rfl
         have d31:D 31 = some 9:=by rw [<- hD];rfl
         have r0:∀ v w,R 0 v w = (v = .pointer (some ⟨b8,0,none⟩)):=fun v w=>by rw [hR];rfl
         have r1:∀ v w,R 1 v w = (v = .pointer (some ⟨b8,0,none⟩)):=fun v w=>by rw [hR];rfl
         have r2:∀ v w,R 2 v w = (v = .slice (some ⟨gq,0,none⟩) 3 cq):=fun v w=>by rw [hR];rfl
         have r3:∀ v w,R 3 v w = (v = .pointer (some ⟨gq,1,none⟩)):=fun v w=>by rw [hR];rfl
         have r4:∀ v w,R 4 v w = (v = J I qy):=fun v w=>by rw [hR];rfl
         have r5:∀ v w,R 5 v w = (v = .slice (some ⟨gq,0,none⟩) 3 cq):=fun v w=>by rw [hR];rfl
         have r6:∀ v w,R 6 v w = (v = .pointer (some ⟨gq,2,none⟩)):=fun v w=>by rw [hR];rfl
         have r7:∀ v w,R 7 v w = (v = J I qz):=fun v w=>by rw [hR];rfl
         have r8:∀ v w,R 8 v w = (v = J I (qy + qz)):=fun v w=>by rw [hR];rfl
         have r9:∀ v w,R 9 v w = (v = J I ix):=fun v w=>by rw [hR];rfl
         have r10:∀ v w,R 10 v w = (v = .pointer (some ⟨b8,0,none⟩)):=fun v w=>by rw [hR];rfl
         have r11:∀ v w,R 11 v w = (v = .pointer (some ⟨b8,0,none⟩)):=fun v w=>by rw [hR];rfl
         have r12:∀ v w,R 12 v w = (v = .slice (some ⟨gq,0,none⟩) 3 cq):=fun v w=>by rw [hR];rfl
         have r13:∀ v w,R 13 v w = (v = .pointer (some ⟨gq,2,none⟩)):=fun v w=>by rw [hR];rfl
         have r14:∀ v w,R 14 v w = (v = J I qz):=fun v w=>by rw [hR];rfl
         have r15:∀ v w,R 15 v w = (v = .slice (some ⟨gq,0,none⟩) 3 cq):=fun v w=>by rw [hR];rfl
         have r16:∀ v w,R 16 v w = (v = .pointer (some ⟨gq,0,none⟩)):=fun v w=>by rw [hR];rfl
         have r17:∀ v w,R 17 v w = (v = J I qx):=fun v w=>by rw [hR];rfl
         have r18:∀ v w,R 18 v w = (v = J I (qz + qx)):=fun v w=>by rw [hR];rfl
         have r19:∀ v w,R 19 v w = (v = J I iy):=fun v w=>by rw [hR];rfl
         have r20:∀ v w,R 20 v w = (v = .pointer (some ⟨b8,0,none⟩)):=fun v w=>by rw [hR];rfl
         have r21:∀ v w,R 21 v w = (v = .pointer (some ⟨b8,0,none⟩)):=fun v w=>by rw [hR];rfl
         have r22:∀ v w,R 22 v w = (v = .slice (some ⟨gq,0,none⟩) 3 cq):=fun v w=>by rw [hR];rfl
         have r23:∀ v w,R 23 v w = (v = .pointer (some ⟨gq,0,none⟩)):=fun v w=>by rw [hR];rfl
         have r24:∀ v w,R 24 v w = (v = J I qx):=fun v w=>by rw [hR];rfl
         have r25:∀ v w,R 25 v w = (v = .slice (some ⟨gq,0,none⟩) 3 cq):=fun v w=>by rw [hR];rfl
         have r26:∀ v w,R 26 v w = (v = .pointer (some ⟨gq,1,none⟩)):=fun v w=>by rw [hR];rfl
         have r27:∀ v w,R 27 v w = (v = J I qy):=fun v w=>by rw [hR];rfl
         have r28:∀ v w,R 28 v w = (v = J I (qx + qy)):=fun v w=>by rw [hR];rfl
         have r29:∀ v w,R 29 v w = (v = J I iz):=fun v w=>by rw [hR];rfl
         have r30:∀ v w,R 30 v w = ((fun v w=>∃ g9,v = .slice (some ⟨g9,0,none⟩) 3 3/\wr.heap.size <= g9/\Cells w g9 [J I ix,J I iy,J I iz]) v w):=fun v w=>by rw [hR];rfl
         have r31:∀ v w,R 31 v w = ((fun v w=>∃ g9,v = .slice (some ⟨g9,0,none⟩) 3 3/\wr.heap.size <= g9/\Cells w g9 [J I ix,J I iy,J I iz]) v w):=fun v w=>by rw [hR];rfl
         have F8_:∀ j,D j ≠ some 8:=by rw [<- hD];exact RV.dst_free (by kernel_rfl)
         have Z8_:Z.tmps[8]? = some (.pointer (some ⟨b8,0,none⟩)):=by rw [<- hZ];rfl
         have F17_:∀ j,D j ≠ some 17:=by rw [<- hD];exact RV.dst_free (by kernel_rfl)
         have Z17_:Z.tmps[17]? = some (.slice (some ⟨gq,0,none⟩) 3 cq):=by rw [<- hZ];rfl
         have K:∀ j v w w',Below w.heap.size w w'->R j v w->R j v w':=by
          rw [hR]
          intro j v w w' hb h
          revert h
          dsimp only
          split
          all_goals first | exact id | exact (fun ⟨g9,t1,t2,t4⟩=>⟨g9,t1,t2,t4.step hb⟩)
         clear hD hWA hZ hR
         refine RV.cc 0 (RV.dp (fun γ v L w hl h=>h) (fun γ L a w hH hl hA=>by have e0:=((hH.rest 8 F8_).trans Z8_);exact ⟨.pointer (some ⟨b8,0,none⟩),by simp [JD,go_sem,e0],(r0 _ _).mpr rfl⟩)) ?_
         refine RV.cc 1 (RV.dp (fun γ v L w hl h=>h) (fun γ L a w hH hl hA=>by have e0:=((hH.rest 8 F8_).trans Z8_);exact ⟨.pointer (some ⟨b8,0,none⟩),by simp [JD,go_sem,e0],(r1 _ _).mpr rfl⟩)) ?_
         refine RV.cc 2 (RV.dp (fun γ v L w hl h=>h) (fun γ L a w hH hl hA=>by have e0:=((hH.rest 17 F17_).trans Z17_);exact ⟨.slice (some ⟨gq,0,none⟩) 3 cq,by simp [JD,go_sem,e0],(r2 _ _).mpr rfl⟩)) ?_
         refine RV.cc 3 (RV.dp (fun γ v L w hl h=>h) (fun γ L a w hH hl hA=>by have e0:=hH.got d2 r2 (hA ⟨2,.data⟩ (by simp) rfl);exact ⟨.pointer (some ⟨gq,1,none⟩),by simp [JD,go_sem,e0],(r3 _ _).mpr rfl⟩)) ?_
         refine RV.cc 4 (RV.dp (fun γ v L w hl h=>h) (fun γ L a w hH hl hA=>by have e0:=hH.got d3 r3 (hA ⟨3,.data⟩ (by simp) rfl);have z0:=Ja hH.glob y1_;exact ⟨J I qy,by simp [JD,go_sem,e0,z0],(r4 _ _).mpr rfl⟩)) ?_
         refine RV.cc 5 (RV.dp (fun γ v L w hl h=>h) (fun γ L a w hH hl hA=>by have e0:=((hH.rest 17 F17_).trans Z17_);exact ⟨.slice (some ⟨gq,0,none⟩) 3 cq,by simp [JD,go_sem,e0],(r5 _ _).mpr rfl⟩)) ?_
         refine RV.cc 6 (RV.dp (fun γ v L w hl h=>h) (fun γ L a w hH hl hA=>by have e0:=hH.got d5 r5 (hA ⟨5,.data⟩ (by simp) rfl);exact ⟨.pointer (some ⟨gq,2,none⟩),by simp [JD,go_sem,e0],(r6 _ _).mpr rfl⟩)) ?_
         refine RV.cc 7 (RV.dp (fun γ v L w hl h=>h) (fun γ L a w hH hl hA=>by have e0:=hH.got d6 r6 (hA ⟨6,.data⟩ (by simp) rfl);have z0:=Ja hH.glob y2_;exact ⟨J I qz,by simp [JD,go_sem,e0,z0],(r7 _ _).mpr rfl⟩)) ?_
         refine RV.cc 8 (RV.dc (fun γ L a w hH hl hA=>by have e0:=hH.got d1 r1 (hA ⟨1,.data⟩ (by simp) rfl);have e1:=hH.got d4 r4 (hA ⟨4,.data⟩ (by simp) rfl);have e2:=hH.got d7 r7 (hA ⟨7,.data⟩ (by simp) rfl);exact ⟨83,#[.pointer (some ⟨b8,0,none⟩),J I qy,J I qz],by simp [go_sem,e0,e1,e2],JA (A1.out w (Cells.step UW.out hH.glob)) (by rintro e w2 ⟨rfl,hb⟩;exact ⟨_,rfl,(r8 _ _).mpr rfl,fun j v _ h=>K j v _ _ hb h,hH.glob.trans (hb.mono hH.glob.size)⟩)⟩)) ?_
         refine RV.cc 9 (RV.dc (fun γ L a w hH hl hA=>by have e0:=hH.got d0 r0 (hA ⟨0,.data⟩ (by simp) rfl);have e1:=hH.got d8 r8 (hA ⟨8,.data⟩ (by simp) rfl);exact ⟨81,#[.pointer (some ⟨b8,0,none⟩),J I (qy + qz),J I 1,J I 3],by simp [go_sem,e0,e1],JA (B1_.out w (Cells.step UW.out hH.glob)) (by rintro e w2 ⟨rfl,hb⟩;exact ⟨_,rfl,(r9 _ _).mpr rfl,fun j v _ h=>K j v _ _ hb h,hH.glob.trans (hb.mono hH.glob.size)⟩)⟩)) ?_
         refine RV.cc 10 (RV.dp (fun γ v L w hl h=>h) (fun γ L a w hH hl hA=>by have e0:=((hH.rest 8 F8_).trans Z8_);exact ⟨.pointer (some ⟨b8,0,none⟩),by simp [JD,go_sem,e0],(r10 _ _).mpr rfl⟩)) ?_
         refine RV.cc 11 (RV.dp (fun γ v L w hl h=>h) (fun γ L a w hH hl hA=>by have e0:=((hH.rest 8 F8_).trans Z8_);exact ⟨.pointer (some ⟨b8,0,none⟩),by simp [JD,go_sem,e0],(r11 _ _).mpr rfl⟩)) ?_
         refine RV.cc 12 (RV.dp (fun γ v L w hl h=>h) (fun γ L a w hH hl hA=>by have e0:=((hH.rest 17 F17_).trans Z17_);exact ⟨.slice (some ⟨gq,0,none⟩) 3 cq,by simp [JD,go_sem,e0],(r12 _ _).mpr rfl⟩)) ?_
         refine RV.cc 13 (RV.dp (fun γ v L w hl h=>h) (fun γ L a w hH hl hA=>by have e0:=hH.got d12 r12 (hA ⟨12,.data⟩ (by simp) rfl);exact ⟨.pointer (some ⟨gq,2,none⟩),by simp [JD,go_sem,e0],(r13 _ _).mpr rfl⟩)) ?_
         refine RV.cc 14 (RV.dp (fun γ v L w hl h=>h) (fun γ L a w hH hl hA=>by have e0:=hH.got d13 r13 (hA ⟨13,.data⟩ (by simp) rfl);have z0:=Ja hH.glob y2_;exact ⟨J I qz,by simp [JD,go_sem,e0,z0],(r14 _ _).mpr rfl⟩)) ?_
         refine RV.cc 15 (RV.dp (fun γ v L w hl h=>h) (fun γ L a w hH hl hA=>by have e0:=((hH.rest 17 F17_).trans Z17_);exact ⟨.slice (some ⟨gq,0,none⟩) 3 cq,by simp [JD,go_sem,e0],(r15 _ _).mpr rfl⟩)) ?_
         refine RV.cc 16 (RV.dp (fun γ v L w hl h=>h) (fun γ L a w hH hl hA=>by have e0:=hH.got d15 r15 (hA ⟨15,.data⟩ (by simp) rfl);exact ⟨.pointer (some ⟨gq,0,none⟩),by simp [JD,go_sem,e0],(r16 _ _).mpr rfl⟩)) ?_
         refine RV.cc 17 (RV.dp (fun γ v L w hl h=>h) (fun γ L a w hH hl hA=>by have e0:=hH.got d16 r16 (hA ⟨16,.data⟩ (by simp) rfl);have z0:=Ja hH.glob y0_;exact ⟨J I qx,by simp [JD,go_sem,e0,z0],(r17 _ _).mpr rfl⟩)) ?_
         refine RV.cc 18 (RV.dc (fun γ L a w hH hl hA=>by have e0:=hH.got d11 r11 (hA ⟨11,.data⟩ (by simp) rfl);have e1:=hH.got d14 r14 (hA ⟨14,.data⟩ (by simp) rfl);have e2:=hH.got d17 r17 (hA ⟨17,.data⟩ (by simp) rfl);exact ⟨83,#[.pointer (some ⟨b8,0,none⟩),J I qz,J I qx],by simp [go_sem,e0,e1,e2],JA (A2.out w (Cells.step UW.out hH.glob)) (by rintro e w2 ⟨rfl,hb⟩;exact ⟨_,rfl,(r18 _ _).mpr rfl,fun j v _ h=>K j v _ _ hb h,hH.glob.trans (hb.mono hH.glob.size)⟩)⟩)) ?_
         refine RV.cc 19 (RV.dc (fun γ L a w hH hl hA=>by have e0:=hH.got d10 r10 (hA ⟨10,.data⟩ (by simp) rfl);have e1:=hH.got d18 r18 (hA ⟨18,.data⟩ (by simp) rfl);exact ⟨81,#[.pointer (some ⟨b8,0,none⟩),J I (qz + qx),J I 1,J I 3],by simp [go_sem,e0,e1],JA (B2_.out w (Cells.step UW.out hH.glob)) (by rintro e w2 ⟨rfl,hb⟩;exact ⟨_,rfl,(r19 _ _).mpr rfl,fun j v _ h=>K j v _ _ hb h,hH.glob.trans (hb.mono hH.glob.size)⟩)⟩)) ?_
         refine RV.cc 20 (RV.dp (fun γ v L w hl h=>h) (fun γ L a w hH hl hA=>by have e0:=((hH.rest 8 F8_).trans Z8_);exact ⟨.pointer (some ⟨b8,0,none⟩),by simp [JD,go_sem,e0],(r20 _ _).mpr rfl⟩)) ?_
         refine RV.cc 21 (RV.dp (fun γ v L w hl h=>h) (fun γ L a w hH hl hA=>by have e0:=((hH.rest 8 F8_).trans Z8_);exact ⟨.pointer (some ⟨b8,0,none⟩),by simp [JD,go_sem,e0],(r21 _ _).mpr rfl⟩)) ?_
         refine RV.cc 22 (RV.dp (fun γ v L w hl h=>h) (fun γ L a w hH hl hA=>by have e0:=((hH.rest 17 F17_).trans Z17_);exact ⟨.slice (some ⟨gq,0,none⟩) 3 cq,by simp [JD,go_sem,e0],(r22 _ _).mpr rfl⟩)) ?_
         refine RV.cc 23 (RV.dp (fun γ v L w hl h=>h) (fun γ L a w hH hl hA=>by have e0:=hH.got d22 r22 (hA ⟨22,.data⟩ (by simp) rfl);exact ⟨.pointer (some ⟨gq,0,none⟩),by simp [JD,go_sem,e0],(r23 _ _).mpr rfl⟩)) ?_
         refine RV.cc 24 (RV.dp (fun γ v L w hl h=>h) (fun γ L a w hH hl hA=>by have e0:=hH.got d23 r23 (hA ⟨23,.data⟩ (by simp) rfl);have z0:=Ja hH.glob y0_;exact ⟨J I qx,by simp [JD,go_sem,e0,z0],(r24 _ _).mpr rfl⟩)) ?_
         refine RV.cc 25 (RV.dp (fun γ v L w hl h=>h) (fun γ L a w hH hl hA=>by have e0:=((hH.rest 17 F17_).trans Z17_);exact ⟨.slice (some ⟨gq,0,none⟩) 3 cq,by simp [JD,go_sem,e0],(r25 _ _).mpr rfl⟩)) ?_
         refine RV.cc 26 (RV.dp (fun γ v L w hl h=>h) (fun γ L a w hH hl hA=>by have e0:=hH.got d25 r25 (hA ⟨25,.data⟩ (by simp) rfl);exact ⟨.pointer (some ⟨gq,1,none⟩),by simp [JD,go_sem,e0],(r26 _ _).mpr rfl⟩)) ?_
         refine RV.cc 27 (RV.dp (fun γ v L w hl h=>h) (fun γ L a w hH hl hA=>by have e0:=hH.got d26 r26 (hA ⟨26,.data⟩ (by simp) rfl);have z0:=Ja hH.glob y1_;exact ⟨J I qy,by simp [JD,go_sem,e0,z0],(r27 _ _).mpr rfl⟩)) ?_
         refine RV.cc 28 (RV.dc (fun γ L a w hH hl hA=>by have e0:=hH.got d21 r21 (hA ⟨21,.data⟩ (by simp) rfl);have e1:=hH.got d24 r24 (hA ⟨24,.data⟩ (by simp) rfl);have e2:=hH.got d27 r27 (hA ⟨27,.data⟩ (by simp) rfl);exact ⟨83,#[.pointer (some ⟨b8,0,none⟩),J I qx,J I qy],by simp [go_sem,e0,e1,e2],JA (A3.out w (Cells.step UW.out hH.glob)) (by rintro e w2 ⟨rfl,hb⟩;exact ⟨_,rfl,(r28 _ _).mpr rfl,fun j v _ h=>K j v _ _ hb h,hH.glob.trans (hb.mono hH.glob.size)⟩)⟩)) ?_
         refine RV.cc 29 (RV.dc (fun γ L a w hH hl hA=>by have e0:=hH.got d20 r20 (hA ⟨20,.data⟩ (by simp) rfl);have e1:=hH.got d28 r28 (hA ⟨28,.data⟩ (by simp) rfl);exact ⟨81,#[.pointer (some ⟨b8,0,none⟩),J I (qx + qy),J I 1,J I 3],by simp [go_sem,e0,e1],JA (B3_.out w (Cells.step UW.out hH.glob)) (by rintro e w2 ⟨rfl,hb⟩;exact ⟨_,rfl,(r29 _ _).mpr rfl,fun j v _ h=>K j v _ _ hb h,hH.glob.trans (hb.mono hH.glob.size)⟩)⟩)) ?_
         refine RV.cc 30 (RV.does_step (fun γ L a w hH hl hA=>by have e0:=hH.got d9 r9 (hA ⟨9,.data⟩ (by simp) rfl);have e1:=hH.got d19 r19 (hA ⟨19,.data⟩ (by simp) rfl);have e2:=hH.got d29 r29 (hA ⟨29,.data⟩ (by simp) rfl);exact ⟨.slice (some ⟨w.heap.size,0,none⟩) 3 3,w.alloc (.cells #[J I ix,J I iy,J I iz] 3),by simp [JD,go_sem,e0,e1,e2],(r30 _ _).mpr ⟨w.heap.size,rfl,hH.glob.size,Cells.new w [J I ix,J I iy,J I iz] _⟩,fun j v _ h=>K j v _ _ (Jb w _) h,hH.glob.trans ((Jb w _).mono hH.glob.size)⟩)) ?_
         refine RV.cc 31 (RV.dp (fun γ v L w hl h=>h) (fun γ L a w hH hl hA=>by have l0:L 30 = true:=hA ⟨30,.data⟩ (by simp) rfl;have e0:=hH.slot 30 153 d30 l0;have g0:=hH.holds 30 l0;rw [r30] at g0;exact ⟨γ 30,by simp [JD,go_sem,e0],(r31 _ _).mpr g0⟩)) ?_
         exact RV.AllDo.nil
        ·intro γ a5 w5 L9 hL hLo hH
         have ha:=RV.held_act hH hL (by kernel_rfl) (by kernel_rfl)
         obtain ⟨gl,y31,yg,yat⟩:∃ g9,γ 31 = .slice (some ⟨g9,0,none⟩) 3 3/\wr.heap.size <= g9/\Cells w5 g9 [J I ix,J I iy,J I iz]:=hH.holds 31 (hL 31 (by decide))
         have hb9:=hH.glob
         rw [ha]
         clear ha hH hL hLo
         simp only [RV.putAll,Act.put,JH,JG,JF,Nat.zero_add,Nat.reduceAdd]
         rw [y31]
         have hB8:Hid _:=Jf hB7.out hb9
         have YAT:Hid _:=yat
         clear y31 yg yat hb9
         go_wp2_with (fail)
         go_meet
         case rel=>exact ⟨gl,rfl,YAT,hB8⟩
 case rest =>
  obtain ⟨gl,rfl,BL,HB⟩:=hcut
  have hD:Hid _:=Jf hD.out HB.out
  have D2:Hid _:=Cells.step D2.out HB.out
  have u0:=(Cells.step BW.out HB.out 0 _ rfl).1
  clear c0 c1 D1 BC LP BW HIN
  go_upto_region 30 with fail
  clear u0
  have l0_:=(BL.out 0 _ rfl).1
  have l1_:=(BL.out 1 _ rfl).1
  have l2_:=(BL.out 2 _ rfl).1
  have s0_:=(D2.out 0 _ rfl).1
  have t0_:=(D2.out 0 _ rfl).2
  have s1_:=(D2.out 1 _ rfl).1
  have t1_:=(D2.out 1 _ rfl).2
  have s2_:=(D2.out 2 _ rfl).1
  have t2_:=(D2.out 2 _ rfl).2
  have s3_:=(D2.out 3 _ rfl).1
  have t3_:=(D2.out 3 _ rfl).2
  refine RV.region_by (fun j v w=>match j with | 0=>v = J I m | 1=>v = .slice (some ⟨gl,0,none⟩) 3 3 | 2=>v = .pointer (some ⟨gl,0,none⟩) | 3=>v = J I ix | 4=>v = J I jx | 5=>v = .slice (some ⟨gl,0,none⟩) 3 3 | 6=>v = .pointer (some ⟨gl,1,none⟩) | 7=>v = J I iy | 8=>v = J I jy | 9=>v = .slice (some ⟨gl,0,none⟩) 3 3 | 10=>v = .pointer (some ⟨gl,2,none⟩) | 11=>v = J I iz | 12=>v = J I jz | 13=>v = .agg #[J I jx,J I jy,J I jz] | 14=>v = .agg #[J I m,J I jx,J I jy,J I jz] | 15=>True | 16=>v = J I 0 | _=>True) (fun γ L w9=>(L 15 = false/\Below wc.heap.size wc w9) \/ (L 15 = true/\∃ w,Below wc.heap.size wc w/\w9 = ((((w.setCell ⟨br,0,none⟩ (J I m)).setCell ⟨br,1,none⟩ (J I jx)).setCell ⟨br,2,none⟩ (J I jy)).setCell ⟨br,3,none⟩ (J I jz)))) (by kernel_rfl) (by kernel_rfl) (by kernel_rfl) (by kernel_rfl) ?_ ?_ ?_
  ·exact Or.inl ⟨rfl,(Below.refl _ wc).drew⟩
  ·generalize hD:Jai _ = D
   generalize hWA:Jab _ = WA
   generalize hZ:Act.mk _ _ = Z
   refine RV.AllDo.name ?_
   intro R hR
   have d0:D 0 = some 159:=by rw [<- hD];rfl
   have d1:D 1 = some 160:=by rw [<- hD];rfl
   have d2:D 2 = some 161:=by rw [<- hD];rfl
   have d3:D 3 = some 162:=by rw [<- hD];rfl
   have d4:D 4 = some 163:=by rw [<- hD];rfl
   have d5:D 5 = some 164:=by rw [<- hD];rfl
   have d6:D 6 = some 165:=by rw [<- hD];rfl
   have d7:D 7 = some 166:=by rw [<- hD];rfl
   have d8:D 8 = some 167:=by rw [<- hD];rfl
   have d9:D 9 = some 168:=by rw [<- hD];rfl
   have d10:D 10 = some 169:=by rw [<- hD];rfl
   have d11:D 11 = some 170:=by rw [<- hD];rfl
   have d12:D 12 = some 171:=by rw [<- hD];rfl
   have d13:D 13 = some 172:=by rw [<- hD];rfl
   have d14:D 14 = some 173:=by rw [<- hD];rfl
   have d16:D 16 = some 5:=by rw [<- hD];rfl
   have r0:∀ v w,R 0 v w = (v = J I m):=fun v w=>by rw [hR];rfl
   have r1:∀ v w,R 1 v w = (v = .slice (some ⟨gl,0,none⟩) 3 3):=fun v w=>by rw [hR];rfl
   have r2:∀ v w,R 2 v w = (v = .pointer (some ⟨gl,0,none⟩)):=fun v w=>by rw [hR];rfl
   have r3:∀ v w,R 3 v w = (v = J I ix):=fun v w=>by rw [hR];rfl
   have r4:∀ v w,R 4 v w = (v = J I jx):=fun v w=>by rw [hR];rfl
   have r5:∀ v w,R 5 v w = (v = .slice (some ⟨gl,0,none⟩) 3 3):=fun v w=>by rw [hR];rfl
   have r6:∀ v w,R 6 v w = (v = .pointer (some ⟨gl,1,none⟩)):=fun v w=>by rw [hR];rfl
   have r7:∀ v w,R 7 v w = (v = J I iy):=fun v w=>by rw [hR];rfl
   have r8:∀ v w,R 8 v w = (v = J I jy):=fun v w=>by rw [hR];rfl
   have r9:∀ v w,R 9 v w = (v = .slice (some ⟨gl,0,none⟩) 3 3):=fun v w=>by rw [hR];rfl
   have r10:∀ v w,R 10 v w = (v = .pointer (some ⟨gl,2,none⟩)):=fun v w=>by rw [hR];rfl
   have r11:∀ v w,R 11 v w = (v = J I iz):=fun v w=>by rw [hR];rfl
   have r12:∀ v w,R 12 v w = (v = J I jz):=fun v w=>by rw [hR];rfl
   have r13:∀ v w,R 13 v w = (v = .agg #[J I jx,J I jy,J I jz]):=fun v w=>by rw [hR];rfl
   have r14:∀ v w,R 14 v w = (v = .agg #[J I m,J I jx,J I jy,J I jz]):=fun v w=>by rw [hR];rfl
   have r15:∀ v w,R 15 v w = (True):=fun v w=>by rw [hR];rfl
   have r16:∀ v w,R 16 v w = (v = J I 0):=fun v w=>by rw [hR];rfl
   have F1_:∀ j,D j ≠ some 1:=by rw [<- hD];exact RV.dst_free (by kernel_rfl)
   have Z1_:Z.tmps[1]? = some (J I m):=by rw [<- hZ];rfl
   have F4_:∀ j,D j ≠ some 4:=by rw [<- hD];exact RV.dst_free (by kernel_rfl)
   have Z4_:Z.tmps[4]? = some (.pointer (some ⟨br,0,none⟩)):=by rw [<- hZ];rfl
   have F9_:∀ j,D j ≠ some 9:=by rw [<- hD];exact RV.dst_free (by kernel_rfl)
   have Z9_:Z.tmps[9]? = some (.slice (some ⟨gl,0,none⟩) 3 3):=by rw [<- hZ];rfl
   have K:∀ j v w w',R j v w->R j v w':=by rw [hR];intro j v w w' h;exact h
   have A_15_3:WA 15 3:=by rw [<- hWA];exact ⟨_,rfl,⟨3,.phase⟩,by simp,rfl,rfl⟩
   have A_15_7:WA 15 7:=by rw [<- hWA];exact ⟨_,rfl,⟨7,.phase⟩,by simp,rfl,rfl⟩
   have A_15_11:WA 15 11:=by rw [<- hWA];exact ⟨_,rfl,⟨11,.phase⟩,by simp,rfl,rfl⟩
   clear hD hWA hZ hR
   refine RV.cc 0 (RV.dp (fun γ v L w hl h=>by rw [RV.mn (L:=L) (i:=0) (j:=15) (by decide)];exact h) (fun γ L a w hH hl hA=>by have e0:=((hH.rest 1 F1_).trans Z1_);exact ⟨J I m,by simp [JD,go_sem,e0],(r0 _ _).mpr rfl⟩)) ?_
   refine RV.cc 1 (RV.dp (fun γ v L w hl h=>by rw [RV.mn (L:=L) (i:=1) (j:=15) (by decide)];exact h) (fun γ L a w hH hl hA=>by have e0:=((hH.rest 9 F9_).trans Z9_);exact ⟨.slice (some ⟨gl,0,none⟩) 3 3,by simp [JD,go_sem,e0],(r1 _ _).mpr rfl⟩)) ?_
   refine RV.cc 2 (RV.dp (fun γ v L w hl h=>by rw [RV.mn (L:=L) (i:=2) (j:=15) (by decide)];exact h) (fun γ L a w hH hl hA=>by have e0:=hH.got d1 r1 (hA ⟨1,.data⟩ (by simp) rfl);exact ⟨.pointer (some ⟨gl,0,none⟩),by simp [JD,go_sem,e0],(r2 _ _).mpr rfl⟩)) ?_
   refine RV.cc 3 (RV.dp (fun γ v L w hl h=>by rw [RV.mn (L:=L) (i:=3) (j:=15) (by decide)];exact h) (fun γ L a w hH hl hA=>by have e0:=hH.got d2 r2 (hA ⟨2,.data⟩ (by simp) rfl);have hB9:=Jal hH.glob (RV.ny hH A_15_3 hl);have v0:=Ja hB9 l0_;exact ⟨J I ix,by simp [JD,go_sem,e0,v0],(r3 _ _).mpr rfl⟩)) ?_
   refine RV.cc 4 (RV.dp (fun γ v L w hl h=>by rw [RV.mn (L:=L) (i:=4) (j:=15) (by decide)];exact h) (fun γ L a w hH hl hA=>by have e0:=hH.got d3 r3 (hA ⟨3,.data⟩ (by simp) rfl);exact ⟨J I jx,by simp [go_sem,e0,hjx],(r4 _ _).mpr rfl⟩)) ?_
   refine RV.cc 5 (RV.dp (fun γ v L w hl h=>by rw [RV.mn (L:=L) (i:=5) (j:=15) (by decide)];exact h) (fun γ L a w hH hl hA=>by have e0:=((hH.rest 9 F9_).trans Z9_);exact ⟨.slice (some ⟨gl,0,none⟩) 3 3,by simp [JD,go_sem,e0],(r5 _ _).mpr rfl⟩)) ?_
   refine RV.cc 6 (RV.dp (fun γ v L w hl h=>by rw [RV.mn (L:=L) (i:=6) (j:=15) (by decide)];exact h) (fun γ L a w hH hl hA=>by have e0:=hH.got d5 r5 (hA ⟨5,.data⟩ (by simp) rfl);exact ⟨.pointer (some ⟨gl,1,none⟩),by simp [JD,go_sem,e0],(r6 _ _).mpr rfl⟩)) ?_
   refine RV.cc 7 (RV.dp (fun γ v L w hl h=>by rw [RV.mn (L:=L) (i:=7) (j:=15) (by decide)];exact h) (fun γ L a w hH hl hA=>by have e0:=hH.got d6 r6 (hA ⟨6,.data⟩ (by simp) rfl);have hB9:=Jal hH.glob (RV.ny hH A_15_7 hl);have v0:=Ja hB9 l1_;exact ⟨J I iy,by simp [JD,go_sem,e0,v0],(r7 _ _).mpr rfl⟩)) ?_
   refine RV.cc 8 (RV.dp (fun γ v L w hl h=>by rw [RV.mn (L:=L) (i:=8) (j:=15) (by decide)];exact h) (fun γ L a w hH hl hA=>by have e0:=hH.got d7 r7 (hA ⟨7,.data⟩ (by simp) rfl);exact ⟨J I jy,by simp [go_sem,e0,hjy],(r8 _ _).mpr rfl⟩)) ?_
   refine RV.cc 9 (RV.dp (fun γ v L w hl h=>by rw [RV.mn (L:=L) (i:=9) (j:=15) (by decide)];exact h) (fun γ L a w hH hl hA=>by have e0:=((hH.rest 9 F9_).trans Z9_);exact ⟨.slice (some ⟨gl,0,none⟩) 3 3,by simp [JD,go_sem,e0],(r9 _ _).mpr rfl⟩)) ?_
   refine RV.cc 10 (RV.dp (fun γ v L w hl h=>by rw [RV.mn (L:=L) (i:=10) (j:=15) (by decide)];exact h) (fun γ L a w hH hl hA=>by have e0:=hH.got d9 r9 (hA ⟨9,.data⟩ (by simp) rfl);exact ⟨.pointer (some ⟨gl,2,none⟩),by simp [JD,go_sem,e0],(r10 _ _).mpr rfl⟩)) ?_
   refine RV.cc 11 (RV.dp (fun γ v L w hl h=>by rw [RV.mn (L:=L) (i:=11) (j:=15) (by decide)];exact h) (fun γ L a w hH hl hA=>by have e0:=hH.got d10 r10 (hA ⟨10,.data⟩ (by simp) rfl);have hB9:=Jal hH.glob (RV.ny hH A_15_11 hl);have v0:=Ja hB9 l2_;exact ⟨J I iz,by simp [JD,go_sem,e0,v0],(r11 _ _).mpr rfl⟩)) ?_
   refine RV.cc 12 (RV.dp (fun γ v L w hl h=>by rw [RV.mn (L:=L) (i:=12) (j:=15) (by decide)];exact h) (fun γ L a w hH hl hA=>by have e0:=hH.got d11 r11 (hA ⟨11,.data⟩ (by simp) rfl);exact ⟨J I jz,by simp [go_sem,e0,hjz],(r12 _ _).mpr rfl⟩)) ?_
   refine RV.cc 13 (RV.dp (fun γ v L w hl h=>by rw [RV.mn (L:=L) (i:=13) (j:=15) (by decide)];exact h) (fun γ L a w hH hl hA=>by have e0:=hH.got d4 r4 (hA ⟨4,.data⟩ (by simp) rfl);have e1:=hH.got d8 r8 (hA ⟨8,.data⟩ (by simp) rfl);have e2:=hH.got d12 r12 (hA ⟨12,.data⟩ (by simp) rfl);exact ⟨.agg #[J I jx,J I jy,J I jz],by simp [JD,go_sem,e0,e1,e2],(r13 _ _).mpr rfl⟩)) ?_
   refine RV.cc 14 (RV.dp (fun γ v L w hl h=>by rw [RV.mn (L:=L) (i:=14) (j:=15) (by decide)];exact h) (fun γ L a w hH hl hA=>by have e0:=hH.got d0 r0 (hA ⟨0,.data⟩ (by simp) rfl);have e1:=hH.got d13 r13 (hA ⟨13,.data⟩ (by simp) rfl);exact ⟨.agg #[J I m,J I jx,J I jy,J I jz],by simp [JD,go_sem,e0,e1],(r14 _ _).mpr rfl⟩)) ?_
   refine RV.cc 15 (RV.does_store (fun γ L a w hH hl hA=>by have e0:=((hH.rest 4 F4_).trans Z4_);have e1:=hH.got d14 r14 (hA ⟨14,.data⟩ (by simp) rfl);have hB9:=Jal hH.glob hl;have z0:=Ja hB9 s0_;have zf0:=Jt hB9 s0_ t0_;have z1:=Ja hB9 s1_;have zf1:=Jt hB9 s1_ t1_;have z2:=Ja hB9 s2_;have zf2:=Jt hB9 s2_ t2_;have z3:=Ja hB9 s3_;have zf3:=Jt hB9 s3_ t3_;exact ⟨((((w.setCell ⟨br,0,none⟩ (J I m)).setCell ⟨br,1,none⟩ (J I jx)).setCell ⟨br,2,none⟩ (J I jy)).setCell ⟨br,3,none⟩ (J I jz)),by simp [JD,go_sem,e0,e1,z0,zf0,z1,zf1,z2,zf2,z3,zf3],(r15 _ _).mpr trivial,fun j v _ h=>K j v _ _ h,Or.inr ⟨RV.more_self,w,hB9,rfl⟩⟩)) ?_
   refine RV.cc 16 (RV.dp (fun γ v L w hl h=>by rw [RV.mn (L:=L) (i:=16) (j:=15) (by decide)];exact h) (fun γ L a w hH hl hA=>by exact ⟨J I 0,by simp [JD,go_sem],(r16 _ _).mpr rfl⟩)) ?_
   exact RV.AllDo.nil
  ·intro γ a5 w5 L9 hL hLo hH
   have ha:=RV.held_act hH hL (by kernel_rfl) (by kernel_rfl)
   obtain ⟨w8,hb8,rfl⟩:=Jk9 hH.glob (hL 15 (by decide))
   have y0:γ 0 = J I m:=hH.holds 0 (hL 0 (by decide))
   have y1:γ 1 = .slice (some ⟨gl,0,none⟩) 3 3:=hH.holds 1 (hL 1 (by decide))
   have y2:γ 2 = .pointer (some ⟨gl,0,none⟩):=hH.holds 2 (hL 2 (by decide))
   have y3:γ 3 = J I ix:=hH.holds 3 (hL 3 (by decide))
   have y4:γ 4 = J I jx:=hH.holds 4 (hL 4 (by decide))
   have y5:γ 5 = .slice (some ⟨gl,0,none⟩) 3 3:=hH.holds 5 (hL 5 (by decide))
   have y6:γ 6 = .pointer (some ⟨gl,1,none⟩):=hH.holds 6 (hL 6 (by decide))
   have y7:γ 7 = J I iy:=hH.holds 7 (hL 7 (by decide))
   have y8:γ 8 = J I jy:=hH.holds 8 (hL 8 (by decide))
   have y9:γ 9 = .slice (some ⟨gl,0,none⟩) 3 3:=hH.holds 9 (hL 9 (by decide))
   have y10:γ 10 = .pointer (some ⟨gl,2,none⟩):=hH.holds 10 (hL 10 (by decide))
   have y11:γ 11 = J I iz:=hH.holds 11 (hL 11 (by decide))
   have y12:γ 12 = J I jz:=hH.holds 12 (hL 12 (by decide))
   have y13:γ 13 = .agg #[J I jx,J I jy,J I jz]:=hH.holds 13 (hL 13 (by decide))
   have y14:γ 14 = .agg #[J I m,J I jx,J I jy,J I jz]:=hH.holds 14 (hL 14 (by decide))
   have y16:γ 16 = J I 0:=hH.holds 16 (hL 16 (by decide))
   rw [ha]
   clear ha hH hL hLo
   simp only [RV.putAll,Act.put,JH,JG,JF,Nat.zero_add,Nat.reduceAdd,y0,y1,y2,y3,y4,y5,y6,y7,y8,y9,y10,y11,y12,y13,y14,y16]
   clear y0 y1 y2 y3 y4 y5 y6 y7 y8 y9 y10 y11 y12 y13 y14 y16
   have E2:Cells ((((w8.setCell ⟨br,0,none⟩ (J I m)).setCell ⟨br,1,none⟩ (J I jx)).setCell ⟨br,2,none⟩ (J I jy)).setCell ⟨br,3,none⟩ (J I jz)) br [J I m,J I jx,J I jy,J I jz]:=Cells.set (Cells.set (Cells.set (Cells.set (Cells.step D2.out hb8) 0 (J I m) (by simp)) 1 (J I jx) (by simp)) 2 (J I jy) (by simp)) 3 (J I jz) (by simp)
   have hE:Hid (Below w0.heap.size w0 ((((w8.setCell ⟨br,0,none⟩ (J I m)).setCell ⟨br,1,none⟩ (J I jx)).setCell ⟨br,2,none⟩ (J I jy)).setCell ⟨br,3,none⟩ (J I jz))):=((((Jf hD.out hb8).setCell hbl _).setCell hbl _).setCell hbl _).setCell hbl _
   generalize (((w8.setCell ⟨br,0,none⟩ (J I m)).setCell ⟨br,1,none⟩ (J I jx)).setCell ⟨br,2,none⟩ (J I jy)).setCell ⟨br,3,none⟩ (J I jz) = Xe at *
   have r0:=(E2 0 _ rfl).1
   have r1:=(E2 1 _ rfl).1
   have r2:=(E2 2 _ rfl).1
   have r3:=(E2 3 _ rfl).1
   go_wp2_with (fail)
   refine bodyPost_ret (v:=.tuple #[.agg #[J I m,J I jx,J I jy,J I jz],J I 0]) (by simp [results,results32,go_sem,r0,r1,r2,r3]) rfl ⟨rfl,hE.out⟩
end
end Go.Proofs.YteebbpioffdncaaGreat
