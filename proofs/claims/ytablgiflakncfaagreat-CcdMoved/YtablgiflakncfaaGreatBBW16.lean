/- The reference's sums of products (tumblerref01). -/
import Derived.Test.YtablgiflakncfaaGreatBBW15
import Derived.Test.YtablgiflakncfaaGreatBBW11
import Derived.Test.YtablgiflakncfaaGreatBBW0
import Derived.Deep.CutRange
import Derived.Test.YtablgiflakncfaaGreatBBW13
set_option maxHeartbeats 4000000
set_option maxRecDepth 100000
set_option linter.unusedVariables false
namespace Go.Proofs.YtablgiflakncfaaGreat
section
open Go.RowKit Ref Fx
theorem prods_fit {l m:List Int} (k:Nat) (hl:l.length <= 8) (h:l.any great = false) (h':m.any great = false):(prods (l.take k) (m.take k)).natAbs < 3138550867693340381917894711603833208051177722232017256448:=by
 have:=prods_bound (l.take k) (m.take k) (any_take k h) (any_take k h')
 have e:(l.take k).length <= 8:=by simp;omega
 have:=Nat.mul_le_mul_right 21267647932558653957237540927630737409 e
 omega
theorem prod_fit {a b:Int} (ha:great a = false) (hb:great b = false):(a * b).natAbs < 3138550867693340381917894711603833208051177722232017256448:=by
 have h1:=(not_great a).1 ha
 have h2:=(not_great b).1 hb
 rw [Int.natAbs_mul]
 exact Nat.lt_of_le_of_lt (Nat.mul_le_mul (show a.natAbs <= 4611686018427387903 by omega) (show b.natAbs <= 4611686018427387903 by omega)) (by decide)
def Wn (v:Value) (n:Int):Prop:=∃ u e,v = wv u e/\Digs e/\sv u e = n
def SG8 (W0:World) (ob:Nat) (z y zy pn:Int) (γ:Nat->Value) (L:Nat->Bool) (w:World):Prop:=
 (L 13 = false->Below W0.heap.size W0 w)/\(L 5 = true->Wn (γ 5) z)/\(L 10 = true->Wn (γ 10) y)/\(L 11 = true->Wn (γ 11) zy)/\(L 12 = true->Wn (γ 12) pn)/\(L 13 = true->∃ V u e,Below W0.heap.size W0 V/\Digs e/\sv u e = pn/\w = (((((((((V.setCell ⟨ob,0,none⟩ (.bool u)).setCell ⟨ob,1,none⟩ (.int .i64 (e 0))).setCell ⟨ob,2,none⟩ (.int .i64 (e 1))).setCell ⟨ob,3,none⟩ (.int .i64 (e 2))).setCell ⟨ob,4,none⟩ (.int .i64 (e 3))).setCell ⟨ob,5,none⟩ (.int .i64 (e 4))).setCell ⟨ob,6,none⟩ (.int .i64 (e 5))).setCell ⟨ob,7,none⟩ (.int .i64 (e 6))).setCell ⟨ob,8,none⟩ (.int .i64 (e 7))))
section
variable {W0 w w':World} {ob:Nat} {z y zy pn:Int} {γ:Nat->Value} {L:Nat->Bool}
theorem SG8.other (h:SG8 W0 ob z y zy pn γ L w) {k:Nat} (v:Value) (h5:5 ≠ k) (h10:10 ≠ k) (h11:11 ≠ k) (h12:12 ≠ k) (h13:13 ≠ k):SG8 W0 ob z y zy pn (RV.upd γ k v) (more L k) w:=by
 unfold SG8
 rw [RV.mn h5,RV.mn h10,RV.mn h11,RV.mn h12,RV.mn h13,RV.upd_ne _ _ h5,RV.upd_ne _ _ h10,RV.upd_ne _ _ h11,RV.upd_ne _ _ h12]
 exact h
theorem SG8.called (h:SG8 W0 ob z y zy pn γ L w) {k:Nat} {v:Value} (hn:L 13 = false) (hb:Below w.heap.size w w') (h13:13 ≠ k) (c5:k = 5->Wn v z) (c10:k = 10->Wn v y) (c11:k = 11->Wn v zy) (c12:k = 12->Wn v pn):SG8 W0 ob z y zy pn (RV.upd γ k v) (more L k) w':=by
 have key:∀ (i:Nat) (n:Int),(k = i->Wn v n)->(L i = true->Wn (γ i) n)->more L k i = true->Wn (RV.upd γ k v i) n:=fun i n c g e=>by
  by_cases hi:k = i
  ·subst hi;rw [RV.upd_self];exact c rfl
  ·rw [RV.mn (fun e=>hi e.symm)] at e;rw [RV.upd_ne _ _ (fun e=>hi e.symm)];exact g e
 refine ⟨fun _=>(h.1 hn).trans (hb.mono (h.1 hn).size),key 5 z c5 h.2.1,key 10 y c10 h.2.2.1,key 11 zy c11 h.2.2.2.1,key 12 pn c12 h.2.2.2.2.1,fun e=>?_⟩
 rw [RV.mn h13,hn] at e
 cases e
end
theorem sumw_any (zs ys:List Int) (ba oa bb ob cap cap':Nat) (w0:World) (hl:zs.length <= 8) (he:zs.length = ys.length) (hg:zs.any great = false) (hg':ys.any great = false)
  (hz:∀ k,k < zs.length->w0.cell? ⟨ba,oa + k,none⟩ = some (.int .i64 (zs.getD k 0))) (hy:∀ k,k < ys.length->w0.cell? ⟨bb,ob + k,none⟩ = some (.int .i64 (ys.getD k 0))) :
  Calls Tryz.prog 144 #[.slice (some ⟨ba,oa,none⟩) zs.length cap,.slice (some ⟨bb,ob,none⟩) ys.length cap'] w0 fun e w'=>∃ s d,e = .returned (wv s d)/\Hid (Digs d/\sv s d = prods zs ys)/\Hid (Below w0.heap.size w0 w'):=by
 have HZ:Hid _:=hz
 have HY:Hid _:=hy
 have HG:Hid (zs.any great = false/\ys.any great = false):=⟨hg,hg'⟩
 have HE:Hid _:=he
 have hly:ys.length <= 8:=by omega
 clear hz hy hg hg' he
 go_enter Tryz.func144,Tryz.ntmps144
 go_wp2
 go_loopw [6] (fun i wr=>∃ (k:Nat) (s:Bool) (d:Nat->Int),k <= zs.length/\i = .int .i64 k/\Hid (Digs d/\sv s d = prods (zs.take k) (ys.take k))/\Hid (RLies wr w0.heap.size false (fun _=>0))/\Hid (RLies wr (w0.heap.size + 1) s d)/\Hid (Below w0.heap.size w0 wr)) (fun i _=>zs.length - (intOf i).toNat)
 case atStart=>exact ⟨0,false,fun _=>0,Nat.zero_le _,rfl,⟨fun j _=>by simp,by simp [sv,val,prods]⟩,RLies.alloc (lies_new w0 false (fun _=>0) 94) _,by show RLies _ _ _ _;have:=lies_new (w0.alloc (.cells #[.bool false,.int .i64 0,.int .i64 0,.int .i64 0,.int .i64 0,.int .i64 0,.int .i64 0,.int .i64 0,.int .i64 0] 94)) false (fun _=>0) 94;simpa only [World.size_alloc] using this,(new_after w0 _).alloc (by simp) _⟩
 case round =>
  obtain ⟨k,s,d,hk,rfl,HD,HR,HO,HB⟩:=hrel
  by_cases hlt:k < zs.length
  ·have hlt2:k < ys.length:=by have:=HE.out;omega
   have c1:=cell_after HB.out (HZ.out k hlt)
   have c2:=cell_after HB.out (HY.out k hlt2)
   have g1:=getD_small HG.out.1 hlt
   have g2:=getD_small HG.out.2 hlt2
   have HS:Hid _:=prods_step k zs ys hlt hlt2
   have HP:Hid _:=prod_fit g1 g2
   have HQ:Hid _:=prods_fit k hl HG.out.1 HG.out.2
   obtain ⟨z,ez⟩:∃ z,zs.getD k 0 = z:=⟨_,rfl⟩
   obtain ⟨y,ey⟩:∃ y,ys.getD k 0 = y:=⟨_,rfl⟩
   rw [ez] at c1 g1 HS HP
   rw [ey] at c2 g2 HS HP
   have bz:=(not_great z).1 g1
   have bY:=(not_great y).1 g2
   clear ez ey g1 g2
   have i0:(0:Int) <= (k:Int):=by omega
   have i1:(k:Int) < (zs.length:Int):=by omega
   have i2:(k:Int) < (ys.length:Int):=by omega
   obtain ⟨a0,a1,a2,a3,a4,a5,a6,a7,a8⟩:=HO.out.cells
   obtain ⟨f0,f1,f2,f3,f4,f5,f6,f7,f8⟩:=HO.out.frees
   go_upto_region 5 with fail
   refine RV.rs [.some (wv s d),.some (.slice (some ⟨ba,oa,none⟩) zs.length cap),.some (.int .i64 (k:Int)),.some (.pointer (some ⟨ba,oa + k,none⟩)),.some (.int .i64 z),none,.some (.slice (some ⟨bb,ob,none⟩) ys.length cap'),.some (.int .i64 (k:Int)),.some (.pointer (some ⟨bb,ob + k,none⟩)),.some (.int .i64 y),none,none,none,none] [14,15,16,17,18,19,20,21,22,23,24,25,26,0] [(5,.pointer (some ⟨w0.heap.size + 1,0,none⟩)),(0,.slice (some ⟨ba,oa,none⟩) zs.length cap),(6,.int .i64 (k:Int)),(1,.slice (some ⟨bb,ob,none⟩) ys.length cap')] (fun γ L W=>SG8 wr (w0.heap.size + 1) z y (z * y) (prods (zs.take (k + 1)) (ys.take (k + 1))) γ L W) ⟨rfl,rfl,rfl,rfl,trivial⟩ ⟨(fun _=>(Below.refl _ wr).drew),(fun e=>by cases e),(fun e=>by cases e),(fun e=>by cases e),(fun e=>by cases e),(fun e=>by cases e)⟩ ?_ ?_
   ·intro D WA Z hD hWA hZ T
    simp only [RV.Outs,RV.Slots,Nat.reduceAdd] at T
    (refine RV.cc _ (RV.pu T (fun γ v L w hl h=>h.other v (by decide) (by decide) (by decide) (by decide) (by decide)) (fun γ L a w hH hl h9 k9=>⟨_,?_,rfl⟩)) ?_;· have q9:=hH.glob.1 (RV.ny hH (RV.wt (j:=13) (i:=0) hWA (by kernel_rfl)) hl);have q0:=cell_after q9 a0;have q1:=cell_after q9 a1;have q2:=cell_after q9 a2;have q3:=cell_after q9 a3;have q4:=cell_after q9 a4;have q5:=cell_after q9 a5;have q6:=cell_after q9 a6;have q7:=cell_after q9 a7;have q8:=cell_after q9 a8;simp [execOp,go_sem,h9,q0,q1,q2,q3,q4,q5,q6,q7,q8])
    (refine RV.cc _ (RV.pu T (fun γ v L w hl h=>h.other v (by decide) (by decide) (by decide) (by decide) (by decide)) (fun γ L a w hH hl h9 k9=>⟨_,?_,rfl⟩)) ?_;· simp [execOp,go_sem,h9])
    (refine RV.cc _ (RV.pu T (fun γ v L w hl h=>h.other v (by decide) (by decide) (by decide) (by decide) (by decide)) (fun γ L a w hH hl h9 k9=>⟨_,?_,rfl⟩)) ?_;· simp [execOp,go_sem,h9])
    (refine RV.cc _ (RV.pu T (fun γ v L w hl h=>h.other v (by decide) (by decide) (by decide) (by decide) (by decide)) (fun γ L a w hH hl h9 k9=>⟨_,?_,rfl⟩)) ?_;· simp [Region.binds] at k9;simp [execOp,go_sem,h9,k9,i0,i1])
    (refine RV.cc _ (RV.pu T (fun γ v L w hl h=>h.other v (by decide) (by decide) (by decide) (by decide) (by decide)) (fun γ L a w hH hl h9 k9=>⟨_,?_,rfl⟩)) ?_;· have q9:=hH.glob.1 (RV.ny hH (RV.wt (j:=13) (i:=4) hWA (by kernel_rfl)) hl);have q0:=cell_after q9 c1;simp [Region.binds] at k9;simp [execOp,go_sem,h9,k9,q0])
    refine RV.cc _ (RV.dc (fun γ L a w hH hl hA=>by have h9:=T γ L a w hH;have k9:=hA;simp [Region.binds] at k9;have n9:=RV.ny hH (RV.wt (j:=13) (i:=5) hWA (by kernel_rfl)) hl;exact ⟨_,_,by simp [go_sem,h9,k9],(of_any z w (by omega) (by omega)).mono (by rintro e w2 ⟨u,e1,rfl,S,B⟩;exact ⟨_,rfl,trivial,fun j v _ h=>h.keep _,hH.glob.called n9 B.out (by decide) (fun _=>⟨u,e1,rfl,S.out.1,S.out.2⟩) (fun e=>absurd e (by decide)) (fun e=>absurd e (by decide)) (fun e=>absurd e (by decide))⟩)⟩)) ?_
    (refine RV.cc _ (RV.pu T (fun γ v L w hl h=>h.other v (by decide) (by decide) (by decide) (by decide) (by decide)) (fun γ L a w hH hl h9 k9=>⟨_,?_,rfl⟩)) ?_;· simp [execOp,go_sem,h9])
    (refine RV.cc _ (RV.pu T (fun γ v L w hl h=>h.other v (by decide) (by decide) (by decide) (by decide) (by decide)) (fun γ L a w hH hl h9 k9=>⟨_,?_,rfl⟩)) ?_;· simp [execOp,go_sem,h9])
    (refine RV.cc _ (RV.pu T (fun γ v L w hl h=>h.other v (by decide) (by decide) (by decide) (by decide) (by decide)) (fun γ L a w hH hl h9 k9=>⟨_,?_,rfl⟩)) ?_;· simp [Region.binds] at k9;simp [execOp,go_sem,h9,k9,i0,i2])
    (refine RV.cc _ (RV.pu T (fun γ v L w hl h=>h.other v (by decide) (by decide) (by decide) (by decide) (by decide)) (fun γ L a w hH hl h9 k9=>⟨_,?_,rfl⟩)) ?_;· have q9:=hH.glob.1 (RV.ny hH (RV.wt (j:=13) (i:=9) hWA (by kernel_rfl)) hl);have q0:=cell_after q9 c2;simp [Region.binds] at k9;simp [execOp,go_sem,h9,k9,q0])
    refine RV.cc _ (RV.dc (fun γ L a w hH hl hA=>by have h9:=T γ L a w hH;have k9:=hA;simp [Region.binds] at k9;have n9:=RV.ny hH (RV.wt (j:=13) (i:=10) hWA (by kernel_rfl)) hl;exact ⟨_,_,by simp [go_sem,h9,k9],(of_any y w (by omega) (by omega)).mono (by rintro e w2 ⟨u,e1,rfl,S,B⟩;exact ⟨_,rfl,trivial,fun j v _ h=>h.keep _,hH.glob.called n9 B.out (by decide) (fun e=>absurd e (by decide)) (fun _=>⟨u,e1,rfl,S.out.1,S.out.2⟩) (fun e=>absurd e (by decide)) (fun e=>absurd e (by decide))⟩)⟩)) ?_
    refine RV.cc _ (RV.dc (fun γ L a w hH hl hA=>by have h9:=T γ L a w hH;have k9:=hA;simp [Region.binds] at k9;have n9:=RV.ny hH (RV.wt (j:=13) (i:=11) hWA (by kernel_rfl)) hl;have l5:L 5 = true:=hA ⟨5,.data⟩ (by simp) rfl;have e5:=hH.slot 5 18 (by rw [<- hD];rfl) l5;obtain ⟨u5,d5,x5,y5,z5⟩:=hH.glob.2.1 l5;rw [x5] at e5;have l10:L 10 = true:=hA ⟨10,.data⟩ (by simp) rfl;have e10:=hH.slot 10 23 (by rw [<- hD];rfl) l10;obtain ⟨u10,d10,x10,y10,z10⟩:=hH.glob.2.2.1 l10;rw [x10] at e10;exact ⟨_,_,by simp [go_sem,e5,e10],(times_any u5 u10 d5 d10 w y5 y10 (by rw [z5,z10];exact Nat.lt_trans HP.out (by decide))).mono (by rintro e w2 ⟨u,e1,rfl,S,B⟩;exact ⟨_,rfl,trivial,fun j v _ h=>h.keep _,hH.glob.called n9 B.out (by decide) (fun e=>absurd e (by decide)) (fun e=>absurd e (by decide)) (fun _=>⟨u,e1,rfl,S.out.1,by rw [S.out.2,z5,z10]⟩) (fun e=>absurd e (by decide))⟩)⟩)) ?_
    refine RV.cc _ (RV.dc (fun γ L a w hH hl hA=>by have h9:=T γ L a w hH;have k9:=hA;simp [Region.binds] at k9;have n9:=RV.ny hH (RV.wt (j:=13) (i:=12) hWA (by kernel_rfl)) hl;have l11:L 11 = true:=hA ⟨11,.data⟩ (by simp) rfl;have e11:=hH.slot 11 24 (by rw [<- hD];rfl) l11;obtain ⟨u11,d11,x11,y11,z11⟩:=hH.glob.2.2.2.1 l11;rw [x11] at e11;exact ⟨_,_,by simp [go_sem,h9,k9,e11],(plusw_any s u11 d d11 w HD.out.1 y11 (by rw [HD.out.2,z11];have h1:=HP.out;have h2:=HQ.out;omega)).mono (by rintro e w2 ⟨u,e1,rfl,S,B⟩;exact ⟨_,rfl,trivial,fun j v _ h=>h.keep _,hH.glob.called n9 B.out (by decide) (fun e=>absurd e (by decide)) (fun e=>absurd e (by decide)) (fun e=>absurd e (by decide)) (fun _=>⟨u,e1,rfl,S.out.1,by rw [S.out.2,HD.out.2,z11,HS.out]⟩)⟩)⟩)) ?_
    refine RV.cc _ (RV.does_store (fun γ L a w hH hl hA=>by have h9:=T γ L a w hH;have l12:L 12 = true:=hA ⟨12,.data⟩ (by simp) rfl;have e12:=hH.slot 12 25 (by rw [<- hD];rfl) l12;obtain ⟨u12,d12,x12,y12,z12⟩:=hH.glob.2.2.2.2.1 l12;rw [x12] at e12;have q9:=hH.glob.1 hl;have q0:=cell_after q9 a0;have g0:=frozen_after q9 a0 f0;have q1:=cell_after q9 a1;have g1:=frozen_after q9 a1 f1;have q2:=cell_after q9 a2;have g2:=frozen_after q9 a2 f2;have q3:=cell_after q9 a3;have g3:=frozen_after q9 a3 f3;have q4:=cell_after q9 a4;have g4:=frozen_after q9 a4 f4;have q5:=cell_after q9 a5;have g5:=frozen_after q9 a5 f5;have q6:=cell_after q9 a6;have g6:=frozen_after q9 a6 f6;have q7:=cell_after q9 a7;have g7:=frozen_after q9 a7 f7;have q8:=cell_after q9 a8;have g8:=frozen_after q9 a8 f8;exact ⟨(((((((((w.setCell ⟨(w0.heap.size + 1),0,none⟩ (.bool u12)).setCell ⟨(w0.heap.size + 1),1,none⟩ (.int .i64 (d12 0))).setCell ⟨(w0.heap.size + 1),2,none⟩ (.int .i64 (d12 1))).setCell ⟨(w0.heap.size + 1),3,none⟩ (.int .i64 (d12 2))).setCell ⟨(w0.heap.size + 1),4,none⟩ (.int .i64 (d12 3))).setCell ⟨(w0.heap.size + 1),5,none⟩ (.int .i64 (d12 4))).setCell ⟨(w0.heap.size + 1),6,none⟩ (.int .i64 (d12 5))).setCell ⟨(w0.heap.size + 1),7,none⟩ (.int .i64 (d12 6))).setCell ⟨(w0.heap.size + 1),8,none⟩ (.int .i64 (d12 7))),by simp [execOp,go_sem,h9,e12,q0,g0,q1,g1,q2,g2,q3,g3,q4,g4,q5,g5,q6,g6,q7,g7,q8,g8],trivial,fun j v _ h=>h.keep _,⟨(fun e=>by rw [RV.more_self] at e;cases e),(fun e=>hH.glob.2.1 (by rwa [RV.mn (by decide)] at e)),(fun e=>hH.glob.2.2.1 (by rwa [RV.mn (by decide)] at e)),(fun e=>hH.glob.2.2.2.1 (by rwa [RV.mn (by decide)] at e)),(fun e=>hH.glob.2.2.2.2.1 (by rwa [RV.mn (by decide)] at e)),fun _=>⟨w,u12,d12,q9,y12,z12,rfl⟩⟩⟩)) ?_
    exact RV.AllDo.nil
   ·intro γ w5 L9 hL hI9 hG9
    obtain ⟨V,u,e1,hV,g1,g2,rfl⟩:=hG9.2.2.2.2.2 (hL 13 (by decide))
    have HO2:RLies V (w0.heap.size + 1) s d:=RLies.below HO.out hV HO.out.lt
    have HR2:RLies V w0.heap.size false (fun _=>0):=RLies.below HR.out hV HR.out.lt
    have HB2:Below w0.heap.size w0 V:=below_step HB.out hV
    have X1:Hid _:=lies_nine (s:=u) (d:=e1) HO2
    have X2:Hid _:=RLies.nine (s:=u) (d:=e1) (b:=w0.heap.size + 1) HR2 (by omega)
    have X3:Hid _:=below_nine (b:=w0.heap.size + 1) (v0:=.bool u) (v1:=.int .i64 (e1 0)) (v2:=.int .i64 (e1 1)) (v3:=.int .i64 (e1 2)) (v4:=.int .i64 (e1 3)) (v5:=.int .i64 (e1 4)) (v6:=.int .i64 (e1 5)) (v7:=.int .i64 (e1 6)) (v8:=.int .i64 (e1 7)) HB2 (by omega)
    have HU:Hid (Digs e1/\sv u e1 = prods (zs.take (k + 1)) (ys.take (k + 1))):=⟨g1,g2⟩
    simp only [RV.putL,Act.put,List.setIfInBounds_toArray,List.set_cons_zero,List.set_cons_succ,Nat.reduceAdd]
    clear a0 f0 a1 f1 a2 f2 a3 f3 a4 f4 a5 f5 a6 f6 a7 f7 a8 f8 HO HR HB HP HQ HO2 HR2 HB2 hG9 hI9 hL hV g1 g2 c1 c2
    go_wp2
    go_roundw
    case rel=>exact ⟨k + 1,u,e1,by omega,by go_num,HU.out,X2.out,X1.out,X3.out⟩
    case measure=>simp [intOf];omega
  ·have hk8:(zs.length:Int) <= (k:Int):=by omega
   have HV:Hid (Digs d/\sv s d = prods zs ys):=by
    obtain ⟨d1,d2⟩:=HD.out
    have e:k = zs.length:=by omega
    rw [e,List.take_length,HE.out,List.take_length] at d2
    exact ⟨d1,d2⟩
   obtain ⟨c0,c1,c2,c3,c4,c5,c6,c7,c8⟩:=HO.out.cells
   obtain ⟨r0,r1,r2,r3,r4,r5,r6,r7,r8⟩:=HR.out.cells
   obtain ⟨f0,f1,f2,f3,f4,f5,f6,f7,f8⟩:=HR.out.frees
   clear HD HZ HY HG
   go_wp2
   try simp only [Exit.inBlock,Exit.then]
   refine bodyPost_ret (by simp [results,Tryz.results144,go_sem,r0,r1,r2,r3,r4,r5,r6,r7,r8];try rfl) rfl ?_
   exact ⟨_,d,rfl,HV.out,below_nine HB.out (by omega)⟩
end
section
open Go.RowKit Ref Fx
theorem rgreat_row (zs:List Int) (a:Option Addr) (cap:Nat) (w:World) (hlen:zs.length <= 4611686018427387904) (h:NRow w a zs) :
  Calls Tryz.prog 50 #[.slice a zs.length cap] w fun e w'=>e = .returned (.bool (zs.any great))/\w' = w:=by
 rcases h with h | ⟨b,off,rfl,h⟩
 ·obtain rfl:zs = []:=List.length_eq_zero_iff.1 h
  exact rgreat_nil a cap w
 ·exact rgreat_any zs b off cap w hlen h
theorem sumw_nil (a c:Option Addr) (cap cap':Nat) (w:World) :
  Calls Tryz.prog 144 #[.slice a 0 cap,.slice c 0 cap'] w fun e w'=>∃ s d,e = .returned (wv s d)/\Hid (Digs d/\sv s d = 0)/\Hid (Below w.heap.size w w'):=by
 go_enter Tryz.func144,Tryz.ntmps144
 go_wp2
 go_rounds 1
 try simp only [Exit.inBlock,Exit.then]
 refine bodyPost_ret (by simp [results,Tryz.results144,go_sem];try rfl) rfl ?_
 exact ⟨false,fun _=>0,rfl,⟨fun j _=>by simp,by simp [sv,val]⟩,by show Below _ _ _;go_grown⟩
theorem sumw_row (zs ys:List Int) (a c:Option Addr) (cap cap':Nat) (w:World) (hl:zs.length <= 8) (he:zs.length = ys.length) (hg:zs.any great = false) (hg':ys.any great = false) (ha:NRow w a zs) (hb:NRow w c ys) :
  Calls Tryz.prog 144 #[.slice a zs.length cap,.slice c ys.length cap'] w fun e w'=>∃ s d,e = .returned (wv s d)/\Hid (Digs d/\sv s d = prods zs ys)/\Hid (Below w.heap.size w w'):=by
 by_cases h0:zs.length = 0
 ·obtain rfl:zs = []:=List.length_eq_zero_iff.1 h0
  obtain rfl:ys = []:=List.length_eq_zero_iff.1 (by omega)
  exact sumw_nil a c cap cap' w
 ·obtain ⟨ba,oa,rfl,hz⟩:=ha.resolve_left h0
  obtain ⟨bb,ob,rfl,hy⟩:=hb.resolve_left (by omega)
  exact sumw_any zs ys ba oa bb ob cap cap' w hl he hg hg' hz hy
theorem fl_one (X:Int):fl X 4294967296 = X / 4294967296:=by unfold fl;rw [if_neg (by omega)]
theorem rdot_law (b off:Nat) (f:Bool) (zs ys:List Int) (a c:Option Addr) (cap cap':Nat) (w:World) (hc:w.cell? ⟨b,off,none⟩ = some (.bool f)) (hf:w.frozen? ⟨b,off,none⟩ = false)
  (hz:zs.length <= 4611686018427387904) (hy:ys.length <= 4611686018427387904) (ha:NRow w a zs) (hb:NRow w c ys) :
  Calls Tryz.prog 133 #[.pointer (some ⟨b,off,none⟩),.slice a zs.length cap,.slice c ys.length cap'] w fun e W'=>∃ v g,e = .returned (.int .i64 v)/\Hid (Step f (dot zs ys) v g)/\Hid (After ⟨b,off,none⟩ g w W'):=by
 have HC:Hid _:=hc
 have HF:Hid _:=hf
 have C2:Hid _:=rtells_any b off f 0 false w hc hf
 have C1:=rgreat_row zs a cap w hz ha
 have C3:=rgreat_row ys c cap' w hy hb
 by_cases h1:zs.length = ys.length
 ·have h1':((zs.length:Int) != (ys.length:Int)) = false:=by simp [h1]
  by_cases h8:8 < zs.length
  ·have HA:Hid _:=(by unfold dot;rw [if_neg (by omega),if_pos h8]:dot zs ys = none)
   clear C1 C3 h1 hc hf ha hb
   go_enter Tryz.func133,Tryz.ntmps133
   go_wp2_with (fail)
   refine Calls.mono C2.out ?_
   rintro e w2 ⟨rfl,hb2⟩
   go_wp2_with (fail)
   go_ret
   exact told_end HA.out.symm (Below.refl _ _) hb2 HC.out HF.out
  ·cases hg:zs.any great
   ·cases hg2:ys.any great
    ·have HA:Hid _:=(by unfold dot;rw [if_neg (by omega),if_neg h8,hg,hg2];rfl:dot zs ys = Fx.told (prods zs ys / 4294967296))
     have HS:Hid _:=sumw_row zs ys a c cap cap' w (by omega) h1 hg hg2 ha hb
     rw [hg] at C1
     rw [hg2] at C3
     have K1:Hid _:=C1
     have K3:Hid _:=C3
     clear C1 C3 h1 hc hf ha hb hg hg2 C2
     go_enter Tryz.func133,Tryz.ntmps133
     go_wp2_with (fail)
     refine Calls.mono K1.out ?_
     rintro e w1 ⟨rfl,hw⟩
     rw [hw];clear hw
     go_wp2_with (fail)
     refine Calls.mono K3.out ?_
     rintro e w1 ⟨rfl,hw⟩
     rw [hw];clear hw
     go_wp2_with (fail)
     refine Calls.mono HS.out ?_
     rintro e w1 ⟨s,d,rfl,S1,B1⟩
     go_wp2_with (fail)
     refine (down_any s d 4294967296 _ S1.out.1 (by omega) (by omega) (by omega)).mono ?_
     rintro e w3 ⟨n,ok,rfl,S3,B3⟩
     have B5:Hid (Below w.heap.size w w3):=below_step B1.out B3.out
     have S5:Hid _:=fits_told S3.out
     rw [S1.out.2,fl_one] at S5
     clear S1 S3 B1 B3 K1 K3 HS
     go_wp2_with (fail)
     refine (rtells_any b off f n ok _ (cell_after B5.out HC.out) (frozen_after B5.out HC.out HF.out)).mono ?_
     rintro e w6 ⟨rfl,hb2⟩
     go_wp2_with (fail)
     go_ret
     exact told_end (S5.out.trans HA.out.symm) B5.out hb2 HC.out HF.out
    ·have HA:Hid _:=(by unfold dot;rw [if_neg (by omega),if_neg h8,hg,hg2];rfl:dot zs ys = none)
     rw [hg] at C1
     rw [hg2] at C3
     have K1:Hid _:=C1
     have K3:Hid _:=C3
     clear C1 C3 h1 hc hf ha hb hg hg2
     go_enter Tryz.func133,Tryz.ntmps133
     go_wp2_with (fail)
     refine Calls.mono K1.out ?_
     rintro e w1 ⟨rfl,hw⟩
     rw [hw];clear hw
     go_wp2_with (fail)
     refine Calls.mono K3.out ?_
     rintro e w1 ⟨rfl,hw⟩
     rw [hw];clear hw
     go_wp2_with (fail)
     refine Calls.mono C2.out ?_
     rintro e w2 ⟨rfl,hb2⟩
     go_wp2_with (fail)
     go_ret
     exact told_end HA.out.symm (Below.refl _ _) hb2 HC.out HF.out
   ·have HA:Hid _:=(by unfold dot;rw [if_neg (by omega),if_neg h8,hg];rfl:dot zs ys = none)
    obtain ⟨g2,hg2⟩:∃ g,g = ys.any great:=⟨_,rfl⟩
    rw [hg] at C1
    rw [<- hg2] at C3
    have K1:Hid _:=C1
    have K3:Hid _:=C3
    clear C1 C3 h1 hc hf ha hb hg hg2
    go_enter Tryz.func133,Tryz.ntmps133
    go_wp2_with (fail)
    refine Calls.mono K1.out ?_
    rintro e w1 ⟨rfl,hw⟩
    rw [hw];clear hw
    go_wp2_with (fail)
    refine Calls.mono K3.out ?_
    rintro e w1 ⟨rfl,hw⟩
    rw [hw];clear hw
    go_wp2_with (fail)
    refine Calls.mono C2.out ?_
    rintro e w2 ⟨rfl,hb2⟩
    go_wp2_with (fail)
    go_ret
    exact told_end HA.out.symm (Below.refl _ _) hb2 HC.out HF.out
 ·have h1':((zs.length:Int) != (ys.length:Int)) = true:=by simp;omega
  have HA:Hid _:=(by unfold dot;rw [if_pos h1]:dot zs ys = none)
  clear C1 C3 hc hf ha hb
  go_enter Tryz.func133,Tryz.ntmps133
  go_wp2_with (fail)
  refine Calls.mono C2.out ?_
  rintro e w2 ⟨rfl,hb2⟩
  go_wp2_with (fail)
  go_ret
  exact told_end HA.out.symm (Below.refl _ _) hb2 HC.out HF.out
theorem rnorm_law (b off:Nat) (f:Bool) (zs:List Int) (a:Option Addr) (cap:Nat) (w:World) (hc:w.cell? ⟨b,off,none⟩ = some (.bool f)) (hf:w.frozen? ⟨b,off,none⟩ = false)
  (hz:zs.length <= 4611686018427387904) (ha:NRow w a zs) :
  Calls Tryz.prog 136 #[.pointer (some ⟨b,off,none⟩),.slice a zs.length cap] w fun e W'=>∃ v g,e = .returned (.int .i64 v)/\Hid (Step f (norm zs) v g)/\Hid (After ⟨b,off,none⟩ g w W'):=by
 have HC:Hid _:=hc
 have HF:Hid _:=hf
 have C2:Hid _:=rtells_any b off f 0 false w hc hf
 have C1:=rgreat_row zs a cap w hz ha
 by_cases h8:8 < zs.length
 ·have HA:Hid _:=(by unfold norm;rw [if_pos h8]:norm zs = none)
  clear C1 hc hf ha
  go_enter Tryz.func136,Tryz.ntmps136
  go_wp2_with (fail)
  refine Calls.mono C2.out ?_
  rintro e w2 ⟨rfl,hb2⟩
  go_wp2_with (fail)
  go_ret
  exact told_end HA.out.symm (Below.refl _ _) hb2 HC.out HF.out
 ·cases hg:zs.any great
  ·have HA:Hid _:=(by unfold norm;rw [if_neg h8,hg];rfl:norm zs = Fx.told (isq (prods zs zs).toNat))
   have HS:Hid _:=sumw_row zs zs a a cap cap w (by omega) rfl hg hg ha ha
   rw [hg] at C1
   have K1:Hid _:=C1
   clear C1 hc hf ha hg C2
   go_enter Tryz.func136,Tryz.ntmps136
   go_wp2_with (fail)
   refine Calls.mono K1.out ?_
   rintro e w1 ⟨rfl,hw⟩
   rw [hw];clear hw
   go_wp2_with (fail)
   refine Calls.mono HS.out ?_
   rintro e w1 ⟨s,d,rfl,S1,B1⟩
   go_wp2_with (fail)
   refine (rootw_any s d _ S1.out.1 (by rw [S1.out.2];exact prods_self zs)).mono ?_
   rintro e w3 ⟨n,ok,rfl,S3,B3⟩
   have B5:Hid (Below w.heap.size w w3):=below_step B1.out B3.out
   have S5:Hid _:=fits_told S3.out
   rw [S1.out.2] at S5
   clear S1 S3 B1 B3 K1 HS
   go_wp2_with (fail)
   refine (rtells_any b off f n ok _ (cell_after B5.out HC.out) (frozen_after B5.out HC.out HF.out)).mono ?_
   rintro e w6 ⟨rfl,hb2⟩
   go_wp2_with (fail)
   go_ret
   exact told_end (S5.out.trans HA.out.symm) B5.out hb2 HC.out HF.out
  ·have HA:Hid _:=(by unfold norm;rw [if_neg h8,hg];rfl:norm zs = none)
   rw [hg] at C1
   have K1:Hid _:=C1
   clear C1 hc hf ha hg
   go_enter Tryz.func136,Tryz.ntmps136
   go_wp2_with (fail)
   refine Calls.mono K1.out ?_
   rintro e w1 ⟨rfl,hw⟩
   rw [hw];clear hw
   go_wp2_with (fail)
   refine Calls.mono C2.out ?_
   rintro e w2 ⟨rfl,hb2⟩
   go_wp2_with (fail)
   go_ret
   exact told_end HA.out.symm (Below.refl _ _) hb2 HC.out HF.out
end
section
open Go.RowKit Ref Fx
theorem rvadd_law (b off:Nat) (f:Bool) (x0 x1 x2 y0 y1 y2:Int) (W:World) (hc:W.cell? ⟨b,off,none⟩ = some (.bool f)) (hf:W.frozen? ⟨b,off,none⟩ = false) :
  Calls Tryz.prog 97 #[.pointer (some ⟨b,off,none⟩),.agg #[.int .i64 x0,.int .i64 x1,.int .i64 x2],.agg #[.int .i64 y0,.int .i64 y1,.int .i64 y2]] W fun e W'=>∃ v0 v1 v2 g,e = .returned (.agg #[.int .i64 v0,.int .i64 v1,.int .i64 v2])/\Hid (Step3 f (add x0 y0) (add x1 y1) (add x2 y2) v0 v1 v2 g)/\Hid (After ⟨b,off,none⟩ g W W'):=by
 have hbW:b < W.heap.size:=World.block_lt_of_cell? _ _ hc
 go_enter Tryz.func97,Tryz.ntmps97
 go_wp2_with (fail)
 refine (rvbare_any _).mono ?_
 rintro e W1 ⟨rfl,rfl⟩
 obtain ⟨U,hU⟩:∃ U,U = ((((W.alloc (.cells #[.int .i64 x0,.int .i64 x1,.int .i64 x2] 23)).alloc (.cells #[.int .i64 y0,.int .i64 y1,.int .i64 y2] 23)).alloc (.cells #[.int .i64 0,.int .i64 0,.int .i64 0] 23)).alloc (.cells #[.bool false] 33)):=⟨_,rfl⟩
 obtain ⟨pa,hpa⟩:∃ p,p = W.heap.size:=⟨_,rfl⟩
 obtain ⟨pb,hpb⟩:∃ p,p = W.heap.size + 1:=⟨_,rfl⟩
 obtain ⟨pr,hpr⟩:∃ p,p = W.heap.size + 1 + 1:=⟨_,rfl⟩
 obtain ⟨po,hpo⟩:∃ p,p = W.heap.size + 1 + 1 + 1:=⟨_,rfl⟩
 have H:Hid (Ho W U ⟨b,off,none⟩ po f false [(⟨pa,0,none⟩,.int .i64 x0),(⟨pa,1,none⟩,.int .i64 x1),(⟨pa,2,none⟩,.int .i64 x2),(⟨pb,0,none⟩,.int .i64 y0),(⟨pb,1,none⟩,.int .i64 y1),(⟨pb,2,none⟩,.int .i64 y2),(⟨pr,0,none⟩,.int .i64 0),(⟨pr,1,none⟩,.int .i64 0),(⟨pr,2,none⟩,.int .i64 0)]):=by
  refine ⟨by rw [hU];exact (((((Leaves.refl _ _).alloc _).alloc _).alloc _).alloc _),by rw [hU,World.cell?_alloc_past _ _ _ (by simp;omega),World.cell?_alloc_past _ _ _ (by simp;omega),World.cell?_alloc_past _ _ _ (by simp;omega),World.cell?_alloc_past _ _ _ hbW];exact hc,by rw [hU,((new_after _ _).frozen (by simp;omega)),((new_after _ _).frozen (by simp;omega)),((new_after _ _).frozen (by simp;omega)),((new_after _ _).frozen hbW)];exact hf,by rw [hU,hpo];simp [go_sem],by rw [hU,hpo];simp [go_sem],?_,?_,hbW,by omega⟩
  ·intro c hc
   simp only [List.mem_cons,List.not_mem_nil,or_false] at hc
   rcases hc with rfl | rfl | rfl | rfl | rfl | rfl | rfl | rfl | rfl <;> rw [hU] <;> dsimp only <;> first | (rw [hpa];exact ⟨by simp [go_sem],by simp [go_sem]⟩) | (rw [hpb];exact ⟨by simp [go_sem],by simp [go_sem]⟩) | (rw [hpr];exact ⟨by simp [go_sem],by simp [go_sem]⟩)
  ·intro c hc
   simp only [List.mem_cons,List.not_mem_nil,or_false] at hc
   rcases hc with rfl | rfl | rfl | rfl | rfl | rfl | rfl | rfl | rfl <;> (dsimp only) <;> omega
 rw [<- hU]
 simp only [World.size_alloc]
 rw [<- hpo,<- hpr,<- hpb,<- hpa]
 have q1:pa < pb:=by omega
 have q2:pb < pr:=by omega
 have q3:pr < po:=by omega
 have q0:W.heap.size <= pa:=by omega
 clear hU hc hf hpa hpb hpr hpo
 have k_pa_0:=(H.out.fix (⟨pa,0,none⟩,.int .i64 x0) (by simp)).1
 have k_pa_1:=(H.out.fix (⟨pa,1,none⟩,.int .i64 x1) (by simp)).1
 have k_pa_2:=(H.out.fix (⟨pa,2,none⟩,.int .i64 x2) (by simp)).1
 have k_pb_0:=(H.out.fix (⟨pb,0,none⟩,.int .i64 y0) (by simp)).1
 have k_pb_1:=(H.out.fix (⟨pb,1,none⟩,.int .i64 y1) (by simp)).1
 have k_pb_2:=(H.out.fix (⟨pb,2,none⟩,.int .i64 y2) (by simp)).1
 have l_pa:=World.block_lt_of_cell? _ _ k_pa_0
 dsimp only at l_pa
 have l_pb:=World.block_lt_of_cell? _ _ k_pb_0
 dsimp only at l_pb
 have ho:=H.out.own
 have hof:=H.out.ownf
 go_wp2_with (fail)
 refine (radd_law po 0 false x0 y0 _ ho hof).mono ?_
 rintro e Wg1 ⟨v0,g1,rfl,Sg1,A⟩
 have H:Hid _:=H.out.after A.out
 clear A k_pa_0 k_pa_1 k_pa_2 k_pb_0 k_pb_1 k_pb_2 l_pa l_pb ho hof
 have k_pa_0:=(H.out.fix (⟨pa,0,none⟩,.int .i64 x0) (by simp)).1
 have k_pa_1:=(H.out.fix (⟨pa,1,none⟩,.int .i64 x1) (by simp)).1
 have k_pa_2:=(H.out.fix (⟨pa,2,none⟩,.int .i64 x2) (by simp)).1
 have k_pb_0:=(H.out.fix (⟨pb,0,none⟩,.int .i64 y0) (by simp)).1
 have k_pb_1:=(H.out.fix (⟨pb,1,none⟩,.int .i64 y1) (by simp)).1
 have k_pb_2:=(H.out.fix (⟨pb,2,none⟩,.int .i64 y2) (by simp)).1
 have l_pa:=World.block_lt_of_cell? _ _ k_pa_0
 dsimp only at l_pa
 have l_pb:=World.block_lt_of_cell? _ _ k_pb_0
 dsimp only at l_pb
 have ho:=H.out.own
 have hof:=H.out.ownf
 go_wp2_with (fail)
 refine (radd_law po 0 g1 x1 y1 _ ho hof).mono ?_
 rintro e Wg2 ⟨v1,g2,rfl,Sg2,A⟩
 have H:Hid _:=H.out.after A.out
 clear A k_pa_0 k_pa_1 k_pa_2 k_pb_0 k_pb_1 k_pb_2 l_pa l_pb ho hof
 have k_pa_0:=(H.out.fix (⟨pa,0,none⟩,.int .i64 x0) (by simp)).1
 have k_pa_1:=(H.out.fix (⟨pa,1,none⟩,.int .i64 x1) (by simp)).1
 have k_pa_2:=(H.out.fix (⟨pa,2,none⟩,.int .i64 x2) (by simp)).1
 have k_pb_0:=(H.out.fix (⟨pb,0,none⟩,.int .i64 y0) (by simp)).1
 have k_pb_1:=(H.out.fix (⟨pb,1,none⟩,.int .i64 y1) (by simp)).1
 have k_pb_2:=(H.out.fix (⟨pb,2,none⟩,.int .i64 y2) (by simp)).1
 have l_pa:=World.block_lt_of_cell? _ _ k_pa_0
 dsimp only at l_pa
 have l_pb:=World.block_lt_of_cell? _ _ k_pb_0
 dsimp only at l_pb
 have ho:=H.out.own
 have hof:=H.out.ownf
 go_wp2_with (fail)
 refine (radd_law po 0 g2 x2 y2 _ ho hof).mono ?_
 rintro e Wg3 ⟨v2,g3,rfl,Sg3,A⟩
 have H:Hid _:=H.out.after A.out
 clear A k_pa_0 k_pa_1 k_pa_2 k_pb_0 k_pb_1 k_pb_2 l_pa l_pb ho hof
 go_wp2_with (fail)
 refine (done_any b off po f g3 _ H.out.flag H.out.flagf H.out.own (by omega)).mono ?_
 rintro e V9 ⟨rfl,A⟩
 have rr0:=A.out.cellOf (H.out.fix (⟨pr,0,none⟩,.int .i64 0) (by simp)).1 (by show pr ≠ b;omega)
 have rf0:=A.out.frozenOf (H.out.fix (⟨pr,0,none⟩,.int .i64 0) (by simp)).1 (H.out.fix (⟨pr,0,none⟩,.int .i64 0) (by simp)).2 (by show pr ≠ b;omega)
 have rr1:=A.out.cellOf (H.out.fix (⟨pr,1,none⟩,.int .i64 0) (by simp)).1 (by show pr ≠ b;omega)
 have rf1:=A.out.frozenOf (H.out.fix (⟨pr,1,none⟩,.int .i64 0) (by simp)).1 (H.out.fix (⟨pr,1,none⟩,.int .i64 0) (by simp)).2 (by show pr ≠ b;omega)
 have rr2:=A.out.cellOf (H.out.fix (⟨pr,2,none⟩,.int .i64 0) (by simp)).1 (by show pr ≠ b;omega)
 have rf2:=A.out.frozenOf (H.out.fix (⟨pr,2,none⟩,.int .i64 0) (by simp)).1 (H.out.fix (⟨pr,2,none⟩,.int .i64 0) (by simp)).2 (by show pr ≠ b;omega)
 have HL:Hid (Leaves ⟨b,off,none⟩ W V9):=H.out.leaves.same A.out
 have hp:=A.out.cell
 have hpf:=A.out.frozen
 have n1:b ≠ pr:=by omega
 have n2:pr ≠ b:=by omega
 have hWr:W.heap.size <= pr:=by omega
 have HS:Hid _:=step3_chain (f:=f) Sg1.out Sg2.out Sg3.out
 clear A H
 cases g3 with
 | true =>
  go_wp2_with (fail)
  refine bodyPost_ret (by simp [results,Tryz.results97,go_sem,rr0,rr1,rr2];try rfl) rfl ?_
  refine ⟨0,0,0,_,rfl,HS.out,(((HL.out.set hWr _).set hWr _).set hWr _).done ?_ ?_⟩
  ·simp [go_sem,hp]
  ·simp [go_sem,hpf]
 | false =>
  go_wp2_with (fail)
  refine bodyPost_ret (by simp [results,Tryz.results97,go_sem,rr0,rr1,rr2];try rfl) rfl ?_
  refine ⟨_,_,_,_,rfl,HS.out,(((HL.out.set hWr _).set hWr _).set hWr _).done ?_ ?_⟩
  ·simp [go_sem,hp]
  ·simp [go_sem,hpf]
theorem step1_done {f g:Bool} {o:Option Int} {v:Int} (h:Step false o v g):Step f o v (f || g):=by
 obtain ⟨rfl,rfl⟩:=h
 exact ⟨rfl,by simp only [Bool.false_or]⟩
theorem rvdot_law (b off:Nat) (f:Bool) (x0 x1 x2 y0 y1 y2:Int) (W:World) (hc:W.cell? ⟨b,off,none⟩ = some (.bool f)) (hf:W.frozen? ⟨b,off,none⟩ = false) :
  Calls Tryz.prog 135 #[.pointer (some ⟨b,off,none⟩),.agg #[.int .i64 x0,.int .i64 x1,.int .i64 x2],.agg #[.int .i64 y0,.int .i64 y1,.int .i64 y2]] W fun e W'=>∃ v g,e = .returned (.int .i64 v)/\Hid (Step f (dot [x0,x1,x2] [y0,y1,y2]) v g)/\Hid (After ⟨b,off,none⟩ g W W'):=by
 have hbW:b < W.heap.size:=World.block_lt_of_cell? _ _ hc
 go_enter Tryz.func135,Tryz.ntmps135
 go_wp2_with (fail)
 refine (rvbare_any _).mono ?_
 rintro e W1 ⟨rfl,rfl⟩
 obtain ⟨U,hU⟩:∃ U,U = (((W.alloc (.cells #[.int .i64 x0,.int .i64 x1,.int .i64 x2] 23)).alloc (.cells #[.int .i64 y0,.int .i64 y1,.int .i64 y2] 23)).alloc (.cells #[.bool false] 33)):=⟨_,rfl⟩
 obtain ⟨pa,hpa⟩:∃ p,p = W.heap.size:=⟨_,rfl⟩
 obtain ⟨pb,hpb⟩:∃ p,p = W.heap.size + 1:=⟨_,rfl⟩
 obtain ⟨po,hpo⟩:∃ p,p = W.heap.size + 1 + 1:=⟨_,rfl⟩
 have H:Hid (Ho W U ⟨b,off,none⟩ po f false [(⟨pa,0,none⟩,.int .i64 x0),(⟨pa,1,none⟩,.int .i64 x1),(⟨pa,2,none⟩,.int .i64 x2),(⟨pb,0,none⟩,.int .i64 y0),(⟨pb,1,none⟩,.int .i64 y1),(⟨pb,2,none⟩,.int .i64 y2)]):=by
  refine ⟨by rw [hU];exact ((((Leaves.refl _ _).alloc _).alloc _).alloc _),by rw [hU,World.cell?_alloc_past _ _ _ (by simp;omega),World.cell?_alloc_past _ _ _ (by simp;omega),World.cell?_alloc_past _ _ _ hbW];exact hc,by rw [hU,((new_after _ _).frozen (by simp;omega)),((new_after _ _).frozen (by simp;omega)),((new_after _ _).frozen hbW)];exact hf,by rw [hU,hpo];simp [go_sem],by rw [hU,hpo];simp [go_sem],?_,?_,hbW,by omega⟩
  ·intro c hc
   simp only [List.mem_cons,List.not_mem_nil,or_false] at hc
   rcases hc with rfl | rfl | rfl | rfl | rfl | rfl <;> rw [hU] <;> dsimp only <;> first | (rw [hpa];exact ⟨by simp [go_sem],by simp [go_sem]⟩) | (rw [hpb];exact ⟨by simp [go_sem],by simp [go_sem]⟩)
  ·intro c hc
   simp only [List.mem_cons,List.not_mem_nil,or_false] at hc
   rcases hc with rfl | rfl | rfl | rfl | rfl | rfl <;> (dsimp only) <;> omega
 rw [<- hU]
 simp only [World.size_alloc]
 rw [<- hpo,<- hpb,<- hpa]
 have q1:pa < pb:=by omega
 have q2:pb < po:=by omega
 have q0:W.heap.size <= pa:=by omega
 clear hU hc hf hpa hpb hpo
 have k_pa_0:=(H.out.fix (⟨pa,0,none⟩,.int .i64 x0) (by simp)).1
 have k_pa_1:=(H.out.fix (⟨pa,1,none⟩,.int .i64 x1) (by simp)).1
 have k_pa_2:=(H.out.fix (⟨pa,2,none⟩,.int .i64 x2) (by simp)).1
 have k_pb_0:=(H.out.fix (⟨pb,0,none⟩,.int .i64 y0) (by simp)).1
 have k_pb_1:=(H.out.fix (⟨pb,1,none⟩,.int .i64 y1) (by simp)).1
 have k_pb_2:=(H.out.fix (⟨pb,2,none⟩,.int .i64 y2) (by simp)).1
 have l_pa:=World.block_lt_of_cell? _ _ k_pa_0
 dsimp only at l_pa
 have l_pb:=World.block_lt_of_cell? _ _ k_pb_0
 dsimp only at l_pb
 have ho:=H.out.own
 have hof:=H.out.ownf
 go_wp2_with (fail)
 refine (rdot_law po 0 false [x0,x1,x2] [y0,y1,y2] (some ⟨U.heap.size,0,none⟩) (some ⟨U.heap.size + 1,0,none⟩) 3 3 ((U.alloc (.cells #[.int .i64 x0,.int .i64 x1,.int .i64 x2] 3)).alloc (.cells #[.int .i64 y0,.int .i64 y1,.int .i64 y2] 3)) ((H.out.alloc (.cells #[.int .i64 x0,.int .i64 x1,.int .i64 x2] 3)).alloc (.cells #[.int .i64 y0,.int .i64 y1,.int .i64 y2] 3)).own ((H.out.alloc (.cells #[.int .i64 x0,.int .i64 x1,.int .i64 x2] 3)).alloc (.cells #[.int .i64 y0,.int .i64 y1,.int .i64 y2] 3)).ownf (by simp) (by simp) (row3 (by simp [go_sem]) (by simp [go_sem]) (by simp [go_sem])) (row3 (by simp [go_sem]) (by simp [go_sem]) (by simp [go_sem]))).mono ?_
 rintro e Wg1 ⟨v0,g1,rfl,Sg1,A⟩
 have H:Hid _:=((H.out.alloc (.cells #[.int .i64 x0,.int .i64 x1,.int .i64 x2] 3)).alloc (.cells #[.int .i64 y0,.int .i64 y1,.int .i64 y2] 3)).after A.out
 clear A k_pa_0 k_pa_1 k_pa_2 k_pb_0 k_pb_1 k_pb_2 l_pa l_pb ho hof
 go_wp2_with (fail)
 refine (done_any b off po f g1 _ H.out.flag H.out.flagf H.out.own (by omega)).mono ?_
 rintro e V9 ⟨rfl,A⟩
 have HA:Hid (After ⟨b,off,none⟩ (f || g1) W V9):=(H.out.leaves.same A.out).done A.out.cell A.out.frozen
 clear A H
 go_wp2_with (fail)
 go_ret
 exact ⟨v0,_,rfl,step1_done Sg1.out,HA⟩
end
section
open Go.RowKit Ref Fx
theorem row4 {w:World} {b:Nat} {x y z u:Int} (h0:w.cell? ⟨b,0,none⟩ = some (.int .i64 x)) (h1:w.cell? ⟨b,1,none⟩ = some (.int .i64 y)) (h2:w.cell? ⟨b,2,none⟩ = some (.int .i64 z)) (h3:w.cell? ⟨b,3,none⟩ = some (.int .i64 u)):NRow w (some ⟨b,0,none⟩) [x,y,z,u]:=
 Or.inr ⟨b,0,rfl,fun k hk=>by
  match k,hk with
  | 0,_=>exact h0
  | 1,_=>exact h1
  | 2,_=>exact h2
  | 3,_=>exact h3⟩
theorem rvturn_law (b off:Nat) (f:Bool) (m0 m1 m2 m3 m4 m5 m6 m7 m8 x0 x1 x2:Int) (W:World) (hc:W.cell? ⟨b,off,none⟩ = some (.bool f)) (hf:W.frozen? ⟨b,off,none⟩ = false) :
  Calls Tryz.prog 98 #[.pointer (some ⟨b,off,none⟩),.agg #[.int .i64 m0,.int .i64 m1,.int .i64 m2,.int .i64 m3,.int .i64 m4,.int .i64 m5,.int .i64 m6,.int .i64 m7,.int .i64 m8],.agg #[.int .i64 x0,.int .i64 x1,.int .i64 x2]] W fun e W'=>∃ v0 v1 v2 g,e = .returned (.agg #[.int .i64 v0,.int .i64 v1,.int .i64 v2])/\Hid (Step3 f (dot [m0,m1,m2] [x0,x1,x2]) (dot [m3,m4,m5] [x0,x1,x2]) (dot [m6,m7,m8] [x0,x1,x2]) v0 v1 v2 g)/\Hid (After ⟨b,off,none⟩ g W W'):=by
 have hbW:b < W.heap.size:=World.block_lt_of_cell? _ _ hc
 go_enter Tryz.func98,Tryz.ntmps98
 go_wp2_with (fail)
 refine (rvbare_any _).mono ?_
 rintro e W1 ⟨rfl,rfl⟩
 obtain ⟨U,hU⟩:∃ U,U = ((((W.alloc (.cells #[.int .i64 m0,.int .i64 m1,.int .i64 m2,.int .i64 m3,.int .i64 m4,.int .i64 m5,.int .i64 m6,.int .i64 m7,.int .i64 m8] 129)).alloc (.cells #[.int .i64 x0,.int .i64 x1,.int .i64 x2] 23)).alloc (.cells #[.int .i64 0,.int .i64 0,.int .i64 0] 23)).alloc (.cells #[.bool false] 33)):=⟨_,rfl⟩
 obtain ⟨pm,hpm⟩:∃ p,p = W.heap.size:=⟨_,rfl⟩
 obtain ⟨pa,hpa⟩:∃ p,p = W.heap.size + 1:=⟨_,rfl⟩
 obtain ⟨pr,hpr⟩:∃ p,p = W.heap.size + 1 + 1:=⟨_,rfl⟩
 obtain ⟨po,hpo⟩:∃ p,p = W.heap.size + 1 + 1 + 1:=⟨_,rfl⟩
 have H:Hid (Ho W U ⟨b,off,none⟩ po f false [(⟨pm,0,none⟩,.int .i64 m0),(⟨pm,1,none⟩,.int .i64 m1),(⟨pm,2,none⟩,.int .i64 m2),(⟨pm,3,none⟩,.int .i64 m3),(⟨pm,4,none⟩,.int .i64 m4),(⟨pm,5,none⟩,.int .i64 m5),(⟨pm,6,none⟩,.int .i64 m6),(⟨pm,7,none⟩,.int .i64 m7),(⟨pm,8,none⟩,.int .i64 m8),(⟨pa,0,none⟩,.int .i64 x0),(⟨pa,1,none⟩,.int .i64 x1),(⟨pa,2,none⟩,.int .i64 x2),(⟨pr,0,none⟩,.int .i64 0),(⟨pr,1,none⟩,.int .i64 0),(⟨pr,2,none⟩,.int .i64 0)]):=by
  refine ⟨by rw [hU];exact (((((Leaves.refl _ _).alloc _).alloc _).alloc _).alloc _),by rw [hU,World.cell?_alloc_past _ _ _ (by simp;omega),World.cell?_alloc_past _ _ _ (by simp;omega),World.cell?_alloc_past _ _ _ (by simp;omega),World.cell?_alloc_past _ _ _ hbW];exact hc,by rw [hU,((new_after _ _).frozen (by simp;omega)),((new_after _ _).frozen (by simp;omega)),((new_after _ _).frozen (by simp;omega)),((new_after _ _).frozen hbW)];exact hf,by rw [hU,hpo];simp [go_sem],by rw [hU,hpo];simp [go_sem],?_,?_,hbW,by omega⟩
  ·intro c hc
   simp only [List.mem_cons,List.not_mem_nil,or_false] at hc
   rcases hc with rfl | rfl | rfl | rfl | rfl | rfl | rfl | rfl | rfl | rfl | rfl | rfl | rfl | rfl | rfl <;> rw [hU] <;> dsimp only <;> first | (rw [hpm];exact ⟨by simp [go_sem],by simp [go_sem]⟩) | (rw [hpa];exact ⟨by simp [go_sem],by simp [go_sem]⟩) | (rw [hpr];exact ⟨by simp [go_sem],by simp [go_sem]⟩)
  ·intro c hc
   simp only [List.mem_cons,List.not_mem_nil,or_false] at hc
   rcases hc with rfl | rfl | rfl | rfl | rfl | rfl | rfl | rfl | rfl | rfl | rfl | rfl | rfl | rfl | rfl <;> (dsimp only) <;> omega
 rw [<- hU]
 simp only [World.size_alloc]
 rw [<- hpo,<- hpr,<- hpa,<- hpm]
 have zq1:pm < pa:=by omega
 have zq2:pa < pr:=by omega
 have zq3:pr < po:=by omega
 have zq0:W.heap.size <= pm:=by omega
 clear hU hc hf hpm hpa hpr hpo
 have k_pm_0:=(H.out.fix (⟨pm,0,none⟩,.int .i64 m0) (by simp)).1
 have k_pm_1:=(H.out.fix (⟨pm,1,none⟩,.int .i64 m1) (by simp)).1
 have k_pm_2:=(H.out.fix (⟨pm,2,none⟩,.int .i64 m2) (by simp)).1
 have k_pm_3:=(H.out.fix (⟨pm,3,none⟩,.int .i64 m3) (by simp)).1
 have k_pm_4:=(H.out.fix (⟨pm,4,none⟩,.int .i64 m4) (by simp)).1
 have k_pm_5:=(H.out.fix (⟨pm,5,none⟩,.int .i64 m5) (by simp)).1
 have k_pm_6:=(H.out.fix (⟨pm,6,none⟩,.int .i64 m6) (by simp)).1
 have k_pm_7:=(H.out.fix (⟨pm,7,none⟩,.int .i64 m7) (by simp)).1
 have k_pm_8:=(H.out.fix (⟨pm,8,none⟩,.int .i64 m8) (by simp)).1
 have k_pa_0:=(H.out.fix (⟨pa,0,none⟩,.int .i64 x0) (by simp)).1
 have k_pa_1:=(H.out.fix (⟨pa,1,none⟩,.int .i64 x1) (by simp)).1
 have k_pa_2:=(H.out.fix (⟨pa,2,none⟩,.int .i64 x2) (by simp)).1
 have l_pm:=World.block_lt_of_cell? _ _ k_pm_0
 dsimp only at l_pm
 have l_pa:=World.block_lt_of_cell? _ _ k_pa_0
 dsimp only at l_pa
 have ho:=H.out.own
 have hof:=H.out.ownf
 go_wp2_with (fail)
 refine (rvdot_law po 0 false m0 m1 m2 x0 x1 x2 _ ho hof).mono ?_
 rintro e Wg1 ⟨v0,g1,rfl,Sg1,A⟩
 have H:Hid _:=H.out.after A.out
 clear A k_pm_0 k_pm_1 k_pm_2 k_pm_3 k_pm_4 k_pm_5 k_pm_6 k_pm_7 k_pm_8 k_pa_0 k_pa_1 k_pa_2 l_pm l_pa ho hof
 have k_pm_0:=(H.out.fix (⟨pm,0,none⟩,.int .i64 m0) (by simp)).1
 have k_pm_1:=(H.out.fix (⟨pm,1,none⟩,.int .i64 m1) (by simp)).1
 have k_pm_2:=(H.out.fix (⟨pm,2,none⟩,.int .i64 m2) (by simp)).1
 have k_pm_3:=(H.out.fix (⟨pm,3,none⟩,.int .i64 m3) (by simp)).1
 have k_pm_4:=(H.out.fix (⟨pm,4,none⟩,.int .i64 m4) (by simp)).1
 have k_pm_5:=(H.out.fix (⟨pm,5,none⟩,.int .i64 m5) (by simp)).1
 have k_pm_6:=(H.out.fix (⟨pm,6,none⟩,.int .i64 m6) (by simp)).1
 have k_pm_7:=(H.out.fix (⟨pm,7,none⟩,.int .i64 m7) (by simp)).1
 have k_pm_8:=(H.out.fix (⟨pm,8,none⟩,.int .i64 m8) (by simp)).1
 have k_pa_0:=(H.out.fix (⟨pa,0,none⟩,.int .i64 x0) (by simp)).1
 have k_pa_1:=(H.out.fix (⟨pa,1,none⟩,.int .i64 x1) (by simp)).1
 have k_pa_2:=(H.out.fix (⟨pa,2,none⟩,.int .i64 x2) (by simp)).1
 have l_pm:=World.block_lt_of_cell? _ _ k_pm_0
 dsimp only at l_pm
 have l_pa:=World.block_lt_of_cell? _ _ k_pa_0
 dsimp only at l_pa
 have ho:=H.out.own
 have hof:=H.out.ownf
 go_wp2_with (fail)
 refine (rvdot_law po 0 g1 m3 m4 m5 x0 x1 x2 _ ho hof).mono ?_
 rintro e Wg2 ⟨v1,g2,rfl,Sg2,A⟩
 have H:Hid _:=H.out.after A.out
 clear A k_pm_0 k_pm_1 k_pm_2 k_pm_3 k_pm_4 k_pm_5 k_pm_6 k_pm_7 k_pm_8 k_pa_0 k_pa_1 k_pa_2 l_pm l_pa ho hof
 have k_pm_0:=(H.out.fix (⟨pm,0,none⟩,.int .i64 m0) (by simp)).1
 have k_pm_1:=(H.out.fix (⟨pm,1,none⟩,.int .i64 m1) (by simp)).1
 have k_pm_2:=(H.out.fix (⟨pm,2,none⟩,.int .i64 m2) (by simp)).1
 have k_pm_3:=(H.out.fix (⟨pm,3,none⟩,.int .i64 m3) (by simp)).1
 have k_pm_4:=(H.out.fix (⟨pm,4,none⟩,.int .i64 m4) (by simp)).1
 have k_pm_5:=(H.out.fix (⟨pm,5,none⟩,.int .i64 m5) (by simp)).1
 have k_pm_6:=(H.out.fix (⟨pm,6,none⟩,.int .i64 m6) (by simp)).1
 have k_pm_7:=(H.out.fix (⟨pm,7,none⟩,.int .i64 m7) (by simp)).1
 have k_pm_8:=(H.out.fix (⟨pm,8,none⟩,.int .i64 m8) (by simp)).1
 have k_pa_0:=(H.out.fix (⟨pa,0,none⟩,.int .i64 x0) (by simp)).1
 have k_pa_1:=(H.out.fix (⟨pa,1,none⟩,.int .i64 x1) (by simp)).1
 have k_pa_2:=(H.out.fix (⟨pa,2,none⟩,.int .i64 x2) (by simp)).1
 have l_pm:=World.block_lt_of_cell? _ _ k_pm_0
 dsimp only at l_pm
 have l_pa:=World.block_lt_of_cell? _ _ k_pa_0
 dsimp only at l_pa
 have ho:=H.out.own
 have hof:=H.out.ownf
 go_wp2_with (fail)
 refine (rvdot_law po 0 g2 m6 m7 m8 x0 x1 x2 _ ho hof).mono ?_
 rintro e Wg3 ⟨v2,g3,rfl,Sg3,A⟩
 have H:Hid _:=H.out.after A.out
 clear A k_pm_0 k_pm_1 k_pm_2 k_pm_3 k_pm_4 k_pm_5 k_pm_6 k_pm_7 k_pm_8 k_pa_0 k_pa_1 k_pa_2 l_pm l_pa ho hof
 go_wp2_with (fail)
 refine (done_any b off po f g3 _ H.out.flag H.out.flagf H.out.own (by omega)).mono ?_
 rintro e V9 ⟨rfl,A⟩
 have rr0:=A.out.cellOf (H.out.fix (⟨pr,0,none⟩,.int .i64 0) (by simp)).1 (by show pr ≠ b;omega)
 have rf0:=A.out.frozenOf (H.out.fix (⟨pr,0,none⟩,.int .i64 0) (by simp)).1 (H.out.fix (⟨pr,0,none⟩,.int .i64 0) (by simp)).2 (by show pr ≠ b;omega)
 have rr1:=A.out.cellOf (H.out.fix (⟨pr,1,none⟩,.int .i64 0) (by simp)).1 (by show pr ≠ b;omega)
 have rf1:=A.out.frozenOf (H.out.fix (⟨pr,1,none⟩,.int .i64 0) (by simp)).1 (H.out.fix (⟨pr,1,none⟩,.int .i64 0) (by simp)).2 (by show pr ≠ b;omega)
 have rr2:=A.out.cellOf (H.out.fix (⟨pr,2,none⟩,.int .i64 0) (by simp)).1 (by show pr ≠ b;omega)
 have rf2:=A.out.frozenOf (H.out.fix (⟨pr,2,none⟩,.int .i64 0) (by simp)).1 (H.out.fix (⟨pr,2,none⟩,.int .i64 0) (by simp)).2 (by show pr ≠ b;omega)
 have HL:Hid (Leaves ⟨b,off,none⟩ W V9):=H.out.leaves.same A.out
 have hp:=A.out.cell
 have hpf:=A.out.frozen
 have n1:b ≠ pr:=by omega
 have n2:pr ≠ b:=by omega
 have hWr:W.heap.size <= pr:=by omega
 have HS:Hid _:=step3_chain (f:=f) Sg1.out Sg2.out Sg3.out
 clear A H
 cases g3 with
 | true =>
  go_wp2_with (fail)
  refine bodyPost_ret (by simp [results,Tryz.results98,go_sem,rr0,rr1,rr2];try rfl) rfl ?_
  refine ⟨0,0,0,_,rfl,HS.out,(((HL.out.set hWr _).set hWr _).set hWr _).done ?_ ?_⟩
  ·simp [go_sem,hp]
  ·simp [go_sem,hpf]
 | false =>
  go_wp2_with (fail)
  refine bodyPost_ret (by simp [results,Tryz.results98,go_sem,rr0,rr1,rr2];try rfl) rfl ?_
  refine ⟨_,_,_,_,rfl,HS.out,(((HL.out.set hWr _).set hWr _).set hWr _).done ?_ ?_⟩
  ·simp [go_sem,hp]
  ·simp [go_sem,hpf]
theorem whole_low {f g0:Bool} {q0 q1 q2 q3 nn:Int} (h0:Step false (norm [q0,q1,q2,q3]) nn g0) (hn:nn < 2147483648) :
  (0:Int) = cond (wholeBad q0 q1 q2 q3) 0 ((ratio q0 4294967296 ((norm [q0,q1,q2,q3]).getD 0)).getD 0)/\(0:Int) = cond (wholeBad q0 q1 q2 q3) 0 ((ratio q1 4294967296 ((norm [q0,q1,q2,q3]).getD 0)).getD 0)/\(0:Int) = cond (wholeBad q0 q1 q2 q3) 0 ((ratio q2 4294967296 ((norm [q0,q1,q2,q3]).getD 0)).getD 0)/\(0:Int) = cond (wholeBad q0 q1 q2 q3) 0 ((ratio q3 4294967296 ((norm [q0,q1,q2,q3]).getD 0)).getD 0)/\true = (f || wholeBad q0 q1 q2 q3):=by
 have hb:wholeBad q0 q1 q2 q3 = true:=by
  unfold wholeBad
  rw [<- h0.1,decide_eq_true hn,Bool.true_or]
 rw [hb]
 exact ⟨rfl,rfl,rfl,rfl,by simp⟩
theorem whole_chain {f g0 g1 g2 g3 g4:Bool} {q0 q1 q2 q3 nn v0 v1 v2 v3:Int} (hn:¬ nn < 2147483648) (h0:Step false (norm [q0,q1,q2,q3]) nn g0) (h1:Step g0 (ratio q0 4294967296 nn) v0 g1) (h2:Step g1 (ratio q1 4294967296 nn) v1 g2) (h3:Step g2 (ratio q2 4294967296 nn) v2 g3) (h4:Step g3 (ratio q3 4294967296 nn) v3 g4) :
  cond g4 0 v0 = cond (wholeBad q0 q1 q2 q3) 0 ((ratio q0 4294967296 ((norm [q0,q1,q2,q3]).getD 0)).getD 0)/\cond g4 0 v1 = cond (wholeBad q0 q1 q2 q3) 0 ((ratio q1 4294967296 ((norm [q0,q1,q2,q3]).getD 0)).getD 0)/\cond g4 0 v2 = cond (wholeBad q0 q1 q2 q3) 0 ((ratio q2 4294967296 ((norm [q0,q1,q2,q3]).getD 0)).getD 0)/\cond g4 0 v3 = cond (wholeBad q0 q1 q2 q3) 0 ((ratio q3 4294967296 ((norm [q0,q1,q2,q3]).getD 0)).getD 0)/\(f || g4) = (f || wholeBad q0 q1 q2 q3):=by
 obtain ⟨e0,rfl⟩:=h0
 have hs:(norm [q0,q1,q2,q3]).isNone = false:=by
  cases hq:norm [q0,q1,q2,q3] with
  | none=>rw [hq] at e0;simp at e0;omega
  | some m=>rfl
 rw [e0] at h1 h2 h3 h4 hn
 obtain ⟨rfl,rfl⟩:=h1
 obtain ⟨rfl,rfl⟩:=h2
 obtain ⟨rfl,rfl⟩:=h3
 obtain ⟨rfl,rfl⟩:=h4
 have hb:wholeBad q0 q1 q2 q3 = ((((false || (norm [q0,q1,q2,q3]).isNone || (ratio q0 4294967296 ((norm [q0,q1,q2,q3]).getD 0)).isNone) || (ratio q1 4294967296 ((norm [q0,q1,q2,q3]).getD 0)).isNone) || (ratio q2 4294967296 ((norm [q0,q1,q2,q3]).getD 0)).isNone) || (ratio q3 4294967296 ((norm [q0,q1,q2,q3]).getD 0)).isNone):=by
  unfold wholeBad
  rw [decide_eq_false hn,hs,Bool.false_or,Bool.false_or,Bool.false_or]
 rw [<- hb]
 exact ⟨rfl,rfl,rfl,rfl,rfl⟩
theorem rvwhole_law (b off:Nat) (f:Bool) (q0 q1 q2 q3:Int) (W:World) (hc:W.cell? ⟨b,off,none⟩ = some (.bool f)) (hf:W.frozen? ⟨b,off,none⟩ = false) :
  Calls Tryz.prog 102 #[.pointer (some ⟨b,off,none⟩),.agg #[.int .i64 q0,.int .i64 q1,.int .i64 q2,.int .i64 q3]] W fun e W'=>∃ v0 v1 v2 v3 g,e = .returned (.agg #[.int .i64 v0,.int .i64 v1,.int .i64 v2,.int .i64 v3])/\Hid (v0 = cond (wholeBad q0 q1 q2 q3) 0 ((ratio q0 4294967296 ((norm [q0,q1,q2,q3]).getD 0)).getD 0)/\v1 = cond (wholeBad q0 q1 q2 q3) 0 ((ratio q1 4294967296 ((norm [q0,q1,q2,q3]).getD 0)).getD 0)/\v2 = cond (wholeBad q0 q1 q2 q3) 0 ((ratio q2 4294967296 ((norm [q0,q1,q2,q3]).getD 0)).getD 0)/\v3 = cond (wholeBad q0 q1 q2 q3) 0 ((ratio q3 4294967296 ((norm [q0,q1,q2,q3]).getD 0)).getD 0)/\g = (f || wholeBad q0 q1 q2 q3))/\Hid (After ⟨b,off,none⟩ g W W'):=by
 have hbW:b < W.heap.size:=World.block_lt_of_cell? _ _ hc
 go_enter Tryz.func102,Tryz.ntmps102
 go_wp2_with (fail)
 refine (rvbare_any _).mono ?_
 rintro e W1 ⟨rfl,rfl⟩
 obtain ⟨U,hU⟩:∃ U,U = (((W.alloc (.cells #[.int .i64 q0,.int .i64 q1,.int .i64 q2,.int .i64 q3] 69)).alloc (.cells #[.int .i64 0,.int .i64 0,.int .i64 0,.int .i64 0] 69)).alloc (.cells #[.bool false] 33)):=⟨_,rfl⟩
 obtain ⟨pa,hpa⟩:∃ p,p = W.heap.size:=⟨_,rfl⟩
 obtain ⟨pr,hpr⟩:∃ p,p = W.heap.size + 1:=⟨_,rfl⟩
 obtain ⟨po,hpo⟩:∃ p,p = W.heap.size + 1 + 1:=⟨_,rfl⟩
 have H:Hid (Ho W U ⟨b,off,none⟩ po f false [(⟨pa,0,none⟩,.int .i64 q0),(⟨pa,1,none⟩,.int .i64 q1),(⟨pa,2,none⟩,.int .i64 q2),(⟨pa,3,none⟩,.int .i64 q3),(⟨pr,0,none⟩,.int .i64 0),(⟨pr,1,none⟩,.int .i64 0),(⟨pr,2,none⟩,.int .i64 0),(⟨pr,3,none⟩,.int .i64 0)]):=by
  refine ⟨by rw [hU];exact ((((Leaves.refl _ _).alloc _).alloc _).alloc _),by rw [hU,World.cell?_alloc_past _ _ _ (by simp;omega),World.cell?_alloc_past _ _ _ (by simp;omega),World.cell?_alloc_past _ _ _ hbW];exact hc,by rw [hU,((new_after _ _).frozen (by simp;omega)),((new_after _ _).frozen (by simp;omega)),((new_after _ _).frozen hbW)];exact hf,by rw [hU,hpo];simp [go_sem],by rw [hU,hpo];simp [go_sem],?_,?_,hbW,by omega⟩
  ·intro c hc
   simp only [List.mem_cons,List.not_mem_nil,or_false] at hc
   rcases hc with rfl | rfl | rfl | rfl | rfl | rfl | rfl | rfl <;> rw [hU] <;> dsimp only <;> first | (rw [hpa];exact ⟨by simp [go_sem],by simp [go_sem]⟩) | (rw [hpr];exact ⟨by simp [go_sem],by simp [go_sem]⟩)
  ·intro c hc
   simp only [List.mem_cons,List.not_mem_nil,or_false] at hc
   rcases hc with rfl | rfl | rfl | rfl | rfl | rfl | rfl | rfl <;> (dsimp only) <;> omega
 rw [<- hU]
 simp only [World.size_alloc]
 rw [<- hpo,<- hpr,<- hpa]
 have zq1:pa < pr:=by omega
 have zq2:pr < po:=by omega
 have zq0:W.heap.size <= pa:=by omega
 clear hU hc hf hpa hpr hpo
 have k_pa_0:=(H.out.fix (⟨pa,0,none⟩,.int .i64 q0) (by simp)).1
 have k_pa_1:=(H.out.fix (⟨pa,1,none⟩,.int .i64 q1) (by simp)).1
 have k_pa_2:=(H.out.fix (⟨pa,2,none⟩,.int .i64 q2) (by simp)).1
 have k_pa_3:=(H.out.fix (⟨pa,3,none⟩,.int .i64 q3) (by simp)).1
 have l_pa:=World.block_lt_of_cell? _ _ k_pa_0
 dsimp only at l_pa
 have ho:=H.out.own
 have hof:=H.out.ownf
 go_wp2_with (fail)
 refine (rnorm_law po 0 false [q0,q1,q2,q3] _ 4 _ (H.out.alloc (.cells #[.int .i64 q0,.int .i64 q1,.int .i64 q2,.int .i64 q3] 3)).own (H.out.alloc (.cells #[.int .i64 q0,.int .i64 q1,.int .i64 q2,.int .i64 q3] 3)).ownf (by simp) (row4 (by simp [go_sem]) (by simp [go_sem]) (by simp [go_sem]) (by simp [go_sem]))).mono ?_
 rintro e Wg0 ⟨nn,g0,rfl,Sg0,A⟩
 have H:Hid _:=(H.out.alloc (.cells #[.int .i64 q0,.int .i64 q1,.int .i64 q2,.int .i64 q3] 3)).after A.out
 clear A k_pa_0 k_pa_1 k_pa_2 k_pa_3 l_pa ho hof
 by_cases hn:nn < 2147483648
 ·have hp:=H.out.flag
  have hpf:=H.out.flagf
  have n1:b ≠ pr:=by omega
  have n2:pr ≠ b:=by omega
  have hWr:W.heap.size <= pr:=by omega
  have rr0:=(H.out.fix (⟨pr,0,none⟩,.int .i64 0) (by simp)).1
  have rf0:=(H.out.fix (⟨pr,0,none⟩,.int .i64 0) (by simp)).2
  have rr1:=(H.out.fix (⟨pr,1,none⟩,.int .i64 0) (by simp)).1
  have rf1:=(H.out.fix (⟨pr,1,none⟩,.int .i64 0) (by simp)).2
  have rr2:=(H.out.fix (⟨pr,2,none⟩,.int .i64 0) (by simp)).1
  have rf2:=(H.out.fix (⟨pr,2,none⟩,.int .i64 0) (by simp)).2
  have rr3:=(H.out.fix (⟨pr,3,none⟩,.int .i64 0) (by simp)).1
  have rf3:=(H.out.fix (⟨pr,3,none⟩,.int .i64 0) (by simp)).2
  have HL:Hid _:=H.out.leaves
  have HS:Hid _:=whole_low (f:=f) (q0:=q0) (q1:=q1) (q2:=q2) (q3:=q3) Sg0.out hn
  clear H Sg0
  go_wp2_with (fail)
  refine bodyPost_ret (by simp [results,Tryz.results102,go_sem,rr0,rr1,rr2,rr3];try rfl) rfl ?_
  refine ⟨0,0,0,0,true,rfl,HS.out,(((((HL.out.own _).set hWr _).set hWr _).set hWr _).set hWr _).done ?_ ?_⟩
  ·simp [go_sem,hp]
  ·simp [go_sem,hpf]
 ·have HN:Hid _:=hn
  have k_pa_0:=(H.out.fix (⟨pa,0,none⟩,.int .i64 q0) (by simp)).1
  have k_pa_1:=(H.out.fix (⟨pa,1,none⟩,.int .i64 q1) (by simp)).1
  have k_pa_2:=(H.out.fix (⟨pa,2,none⟩,.int .i64 q2) (by simp)).1
  have k_pa_3:=(H.out.fix (⟨pa,3,none⟩,.int .i64 q3) (by simp)).1
  have l_pa:=World.block_lt_of_cell? _ _ k_pa_0
  dsimp only at l_pa
  have ho:=H.out.own
  have hof:=H.out.ownf
  go_wp2_with (fail)
  refine (rdiv_law po 0 g0 q0 nn _ ho hof).mono ?_
  rintro e Wg1 ⟨v0,g1,rfl,Sg1,A⟩
  have H:Hid _:=H.out.after A.out
  clear A k_pa_0 k_pa_1 k_pa_2 k_pa_3 l_pa ho hof
  have k_pa_0:=(H.out.fix (⟨pa,0,none⟩,.int .i64 q0) (by simp)).1
  have k_pa_1:=(H.out.fix (⟨pa,1,none⟩,.int .i64 q1) (by simp)).1
  have k_pa_2:=(H.out.fix (⟨pa,2,none⟩,.int .i64 q2) (by simp)).1
  have k_pa_3:=(H.out.fix (⟨pa,3,none⟩,.int .i64 q3) (by simp)).1
  have l_pa:=World.block_lt_of_cell? _ _ k_pa_0
  dsimp only at l_pa
  have ho:=H.out.own
  have hof:=H.out.ownf
  go_wp2_with (fail)
  refine (rdiv_law po 0 g1 q1 nn _ ho hof).mono ?_
  rintro e Wg2 ⟨v1,g2,rfl,Sg2,A⟩
  have H:Hid _:=H.out.after A.out
  clear A k_pa_0 k_pa_1 k_pa_2 k_pa_3 l_pa ho hof
  have k_pa_0:=(H.out.fix (⟨pa,0,none⟩,.int .i64 q0) (by simp)).1
  have k_pa_1:=(H.out.fix (⟨pa,1,none⟩,.int .i64 q1) (by simp)).1
  have k_pa_2:=(H.out.fix (⟨pa,2,none⟩,.int .i64 q2) (by simp)).1
  have k_pa_3:=(H.out.fix (⟨pa,3,none⟩,.int .i64 q3) (by simp)).1
  have l_pa:=World.block_lt_of_cell? _ _ k_pa_0
  dsimp only at l_pa
  have ho:=H.out.own
  have hof:=H.out.ownf
  go_wp2_with (fail)
  refine (rdiv_law po 0 g2 q2 nn _ ho hof).mono ?_
  rintro e Wg3 ⟨v2,g3,rfl,Sg3,A⟩
  have H:Hid _:=H.out.after A.out
  clear A k_pa_0 k_pa_1 k_pa_2 k_pa_3 l_pa ho hof
  have k_pa_0:=(H.out.fix (⟨pa,0,none⟩,.int .i64 q0) (by simp)).1
  have k_pa_1:=(H.out.fix (⟨pa,1,none⟩,.int .i64 q1) (by simp)).1
  have k_pa_2:=(H.out.fix (⟨pa,2,none⟩,.int .i64 q2) (by simp)).1
  have k_pa_3:=(H.out.fix (⟨pa,3,none⟩,.int .i64 q3) (by simp)).1
  have l_pa:=World.block_lt_of_cell? _ _ k_pa_0
  dsimp only at l_pa
  have ho:=H.out.own
  have hof:=H.out.ownf
  go_wp2_with (fail)
  refine (rdiv_law po 0 g3 q3 nn _ ho hof).mono ?_
  rintro e Wg4 ⟨v3,g4,rfl,Sg4,A⟩
  have H:Hid _:=H.out.after A.out
  clear A k_pa_0 k_pa_1 k_pa_2 k_pa_3 l_pa ho hof
  go_wp2_with (fail)
  refine (done_any b off po f g4 _ H.out.flag H.out.flagf H.out.own (by omega)).mono ?_
  rintro e V9 ⟨rfl,A⟩
  have rr0:=A.out.cellOf (H.out.fix (⟨pr,0,none⟩,.int .i64 0) (by simp)).1 (by show pr ≠ b;omega)
  have rf0:=A.out.frozenOf (H.out.fix (⟨pr,0,none⟩,.int .i64 0) (by simp)).1 (H.out.fix (⟨pr,0,none⟩,.int .i64 0) (by simp)).2 (by show pr ≠ b;omega)
  have rr1:=A.out.cellOf (H.out.fix (⟨pr,1,none⟩,.int .i64 0) (by simp)).1 (by show pr ≠ b;omega)
  have rf1:=A.out.frozenOf (H.out.fix (⟨pr,1,none⟩,.int .i64 0) (by simp)).1 (H.out.fix (⟨pr,1,none⟩,.int .i64 0) (by simp)).2 (by show pr ≠ b;omega)
  have rr2:=A.out.cellOf (H.out.fix (⟨pr,2,none⟩,.int .i64 0) (by simp)).1 (by show pr ≠ b;omega)
  have rf2:=A.out.frozenOf (H.out.fix (⟨pr,2,none⟩,.int .i64 0) (by simp)).1 (H.out.fix (⟨pr,2,none⟩,.int .i64 0) (by simp)).2 (by show pr ≠ b;omega)
  have rr3:=A.out.cellOf (H.out.fix (⟨pr,3,none⟩,.int .i64 0) (by simp)).1 (by show pr ≠ b;omega)
  have rf3:=A.out.frozenOf (H.out.fix (⟨pr,3,none⟩,.int .i64 0) (by simp)).1 (H.out.fix (⟨pr,3,none⟩,.int .i64 0) (by simp)).2 (by show pr ≠ b;omega)
  have HL:Hid (Leaves ⟨b,off,none⟩ W V9):=H.out.leaves.same A.out
  have hp:=A.out.cell
  have hpf:=A.out.frozen
  have n1:b ≠ pr:=by omega
  have n2:pr ≠ b:=by omega
  have hWr:W.heap.size <= pr:=by omega
  have HS:Hid _:=whole_chain (f:=f) HN.out Sg0.out Sg1.out Sg2.out Sg3.out Sg4.out
  clear A H
  cases g4 with
  | true =>
   go_wp2_with (fail)
   refine bodyPost_ret (by simp [results,Tryz.results102,go_sem,rr0,rr1,rr2,rr3];try rfl) rfl ?_
   refine ⟨0,0,0,0,_,rfl,HS.out,((((HL.out.set hWr _).set hWr _).set hWr _).set hWr _).done ?_ ?_⟩
   ·simp [go_sem,hp]
   ·simp [go_sem,hpf]
  | false =>
   go_wp2_with (fail)
   refine bodyPost_ret (by simp [results,Tryz.results102,go_sem,rr0,rr1,rr2,rr3];try rfl) rfl ?_
   refine ⟨_,_,_,_,_,rfl,HS.out,((((HL.out.set hWr _).set hWr _).set hWr _).set hWr _).done ?_ ?_⟩
   ·simp [go_sem,hp]
   ·simp [go_sem,hpf]
end
end Go.Proofs.YtablgiflakncfaaGreat
