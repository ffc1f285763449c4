/- The document's own sides of a hull. -/
import Derived.Test.YtkblcfgamnmbkaaGreatEBRight0
import Derived.Test.YtkblcfgamnmbkaaGreatEBRight9
import Derived.Test.YtkblcfgamnmbkaaGreatEBRight4
set_option maxHeartbeats 4000000
set_option maxRecDepth 100000
set_option linter.unusedVariables false
namespace Go.Proofs.YtkblcfgamnmbkaaGreat
open Go.Calls renaming mono -> JA
open Go.World renaming block_lt_of_cell? -> JB
open Go.Region renaming binds -> JC
open Go renaming execOp -> JD
open List renaming set_cons_succ -> JF
open List renaming set_cons_zero -> JG
open List renaming setIfInBounds_toArray -> JH
open Go.Proofs.Tryz
open Go.Value renaming int -> J
open Go.IntKind renaming i64 -> Y
open Go.Value renaming pointer -> BO
open Go.Obj renaming cells -> BP
open Go.Value renaming slice -> BQ
open Go.Value renaming bool -> BT
open Go.RowKit renaming Hid -> BU
open Go renaming World -> BV
open Go.Ending renaming returned -> BZ
open Go renaming Value -> B7
open Go.RowKit renaming Below -> B9
open Go.Value renaming agg -> B_
open Go renaming Calls -> Cd
open Go renaming Addr -> Ce
section
open Go.RowKit Go.Shelf
theorem Jlm(n a:Pt):∀(L:List Pt) (s:Int),(L.foldl (fun s p=>Jfb s (n.dot (p.sub a))) s<0)↔(s<0 \/ ∃ p∈L,n.dot (p.sub a)<0)
 | [],s=>by simp
 | p::r,s=>by
  rw[List.foldl_cons,Jlm n a r];have:Jfb s (n.dot (p.sub a))<0↔(s<0\/n.dot (p.sub a)<0):=by unfold Jfb;split <;> omega
  rw[this];simp only[List.mem_cons,exists_eq_or_imp,or_assoc]
theorem Jjr(n a:Pt):∀(L:List Pt) (s:Int),(0<L.foldl (fun s p=>Jbp s (n.dot (p.sub a))) s)↔(0<s \/ ∃ p∈L,0<n.dot (p.sub a))
 | [],s=>by simp
 | p::r,s=>by
  rw[List.foldl_cons,Jjr n a r];have:0<Jbp s (n.dot (p.sub a))↔(0<s\/0<n.dot (p.sub a)):=by unfold Jbp;split <;> omega
  rw[this];simp only[List.mem_cons,exists_eq_or_imp,or_assoc]
theorem Jps(L:List Pt)(n a:Pt):Jfj L n a=if Jj8 L n a=true then (if below L n a=true then 0 else -1) else 1:=by
 have h1:=Jjr n a L 0;have h2:=Jlm n a L 0;have e1:Jj8 L n a=true ↔ ∃ p∈L,0<n.dot (p.sub a):=by unfold Jj8;simp
 have e2:below L n a=true ↔ ∃ p∈L,n.dot (p.sub a)<0:=by unfold below;simp
 unfold Jfj Jky Jgu;rw[List.take_length];simp only[e1,e2];by_cases a1:∃ p∈L,0<n.dot (p.sub a)
 ·have:=h1.2 (Or.inr a1);rw[if_pos a1,if_neg (by omega)];by_cases a2:∃ p∈L,n.dot (p.sub a)<0
  ·have:=h2.2 (Or.inr a2);rw[if_pos a2,if_neg (by omega)]
  ·have h3:¬ L.foldl (fun s p=>Jfb s (n.dot (p.sub a))) 0<0:=fun h=>(h2.1 h).elim (fun h=>by omega) a2;rw[if_neg a2,if_pos (by omega)]
 ·have h3:¬ 0<L.foldl (fun s p=>Jbp s (n.dot (p.sub a))) 0:=fun h=>(h1.1 h).elim (fun h=>by omega) a1;rw[if_neg a1,if_pos (by omega)]
def Jdj(E:List Pt)(q:Pt):List Pt:=if q∈E\/q.neg∈E then E else E ++ [q]
theorem Jsw{L:List Pt}{a b c:Pt}{s:List Pt × List Pt}(h:(b.sub a).cross (c.sub a)=Pt.O\/Jfj L ((b.sub a).cross (c.sub a)) a=0):Jn7 L a b c s=s:=by
 unfold Jn7;dsimp only;rw[if_pos];rcases h with h | h
 ·exact Or.inl h
 ·right
  rw[Jps]at h
  split at h
  ·rename_i h1
   split at h
   ·rename_i h2;exact⟨h1,h2⟩
   ·omega
  ·omega
def Jr6(sd:Int)(n:Pt):Pt:=if sd=1 then n else n.neg
theorem Jsl{L:List Pt}{a b c:Pt}{A E:List Pt}(h:¬ ((b.sub a).cross (c.sub a)=Pt.O\/Jfj L ((b.sub a).cross (c.sub a)) a=0)):
  Jn7 L a b c (A,E)=(Jbk A (Jr6 (Jfj L ((b.sub a).cross (c.sub a)) a) ((b.sub a).cross (c.sub a))).short,Jdj (Jdj (Jdj E (b.sub a).short) (c.sub a).short) (c.sub b).short)/\(Jfj L ((b.sub a).cross (c.sub a)) a=1\/Jfj L ((b.sub a).cross (c.sub a)) a = -1):=by
 rw[not_or]at h;generalize hn:(b.sub a).cross (c.sub a)=n at *;have hs:=Jps L n a;unfold Jn7 Jr6;dsimp only;rw[hn];by_cases h1:Jj8 L n a=true
 ·rw[if_pos h1]at hs;by_cases h2:below L n a=true
  ·rw[if_pos h2]at hs;exact absurd hs h.2
  ·rw[if_neg h2]at hs;rw[if_neg (fun k=>k.elim h.1 (fun k=>h2 k.2)),hs,if_pos h1,if_neg (by decide)];exact⟨rfl,Or.inr rfl⟩
 ·rw[if_neg h1]at hs;rw[if_neg (fun k=>k.elim h.1 (fun k=>h1 k.1)),hs,if_neg h1,if_pos rfl];exact⟨rfl,Or.inl rfl⟩
theorem Jdw(a b:Int):(a == b)=decide (a=b):=by by_cases h:a=b <;> simp[h]
theorem Jvg(a b:Bool):(a ||(true&&b))=(a||b):=by cases a <;> cases b <;> rfl
theorem Jui(a b:Bool):(a ||(false&&b))=a:=by cases a <;> cases b <;> rfl
theorem Jpu(v:B7)(Ls:List Pt)(w0:BV)(hv:Lies w0 v Ls)(h0:0<Ls.length)(hl:Ls.length<=12)(dN:∀ p∈Ls,p.inB 65536=true):
  Cd Tryz.prog 143 #[v] w0 fun e W=>∃ va ve,e = BZ (.tuple #[va,ve])/\Two w0 W va ve (Jep Ls).1 (Jep Ls).2 []:=by
 obtain⟨o,c,rfl,fE,fF,ar⟩:=hv.form;have HV:BU _:=hv;have HC:BU _:=ar;have dj:BU _:=dN;obtain⟨g,off,rfl,_,_,_⟩:=ar 0 (by omega);clear hv ar dN;obtain⟨Rz,hR⟩:∃ R,Jep Ls=R:=⟨_,rfl⟩
 rw[hR];have HR:BU (Jdl Ls (Ls.drop 0) ([],[])=Rz):=hR;clear hR;obtain⟨i0,iw,dQ,dE,iA⟩:=info_parts Jes;have HI:BU _:=And.intro iw (And.intro dQ (And.intro dE iA));clear iw dQ dE iA;go_enter func143,ntmps143;go_wp2_with (fail)
 go_loopg [4,5,6] Ls.length (fun gm s4 s5 s6 wr=>∃(i:Nat) (A E:List Pt) (oa oe:Option Ce) (ca ce:Nat),s4 = BQ oa A.length ca/\s5 = BQ oe E.length ce/\s6=J Y (i:Int)/\i<=Ls.length/\gm=Ls.length-i/\A.length<=144*i/\E.length<=432*i/\BU (Jdl Ls (Ls.drop i) (A,E)=Rz)/\BU (Two w0 wr (BQ oa A.length ca) (BQ oe E.length ce) A E []))
 case atStart=>exact⟨0,[],[],none,none,0,0,rfl,rfl,rfl,Nat.zero_le _,rfl,Nat.zero_le _,Nat.zero_le _,HR,Two.start w0⟩
 case round =>
  clear HR;obtain⟨i,A,E,oa,oe,ca,ce,rfl,rfl,rfl,hi,be,hA,hE,HD,HT⟩:=hrel;have eH:BU _:=be;clear be;by_cases aG:i<Ls.length
  ·have cA:=dj.out _ (Ja2 aG);have uT:BU _:=HC.out i aG;have HD:BU (Jdl Ls (Ls.drop (i+1)) (Jmy Ls (pt Ls i) (Ls.drop (i+1)) (A,E))=Rz):=by show _=_;rw[<- HD.out,Jk0 aG];rfl
   generalize pt Ls i=pa at *;go_wp2_with (fail)
   go_loopg [4,5,7] (Ls.length-(i+1)) (fun gm s4 s5 s7 wx=>∃(j:Nat) (A E:List Pt) (oa oe:Option Ce) (ca ce:Nat),s4 = BQ oa A.length ca/\s5 = BQ oe E.length ce/\s7=J Y (j:Int)/\i+1<=j/\j<=Ls.length/\gm=Ls.length-j/\A.length<=144*i+12*j/\E.length<=432*i+36*j/\BU (Jdl Ls (Ls.drop (i+1)) (Jmy Ls pa (Ls.drop j) (A,E))=Rz)/\BU (Two w0 wx (BQ oa A.length ca) (BQ oe E.length ce) A E []))
   case atStart=>exact⟨i+1,A,E,oa,oe,ca,ce,rfl,rfl,by go_num,Nat.le_refl _,by omega,rfl,by omega,by omega,HD,HT⟩
   case round =>
    clear HD HT hA hE;obtain⟨jq,A,E,oa,oe,ca,ce,rfl,rfl,rfl,qo,hj,be,hA,hE,HD,HT⟩:=hrel;have gU:BU _:=be;clear be;by_cases hjt:jq<Ls.length
    ·have eS:=dj.out _ (Ja2 hjt);have HXB:BU _:=HC.out jq hjt;have HD:BU (Jdl Ls (Ls.drop (i+1)) (Jmy Ls pa (Ls.drop (jq+1)) (Jin Ls pa (pt Ls jq) (Ls.drop (jq+1)) (A,E)))=Rz):=by show _=_;rw[<- HD.out,Jk0 hjt];rfl
     generalize pt Ls jq=pb at *;go_wp2_with (fail)
     go_loopg [4,5,8] (Ls.length-(jq+1)) (fun gm s4 s5 s8 wy=>∃(k:Nat) (A E:List Pt) (oa oe:Option Ce) (ca ce:Nat),s4 = BQ oa A.length ca/\s5 = BQ oe E.length ce/\s8=J Y (k:Int)/\jq+1<=k/\k<=Ls.length/\gm=Ls.length-k/\A.length<=144*i+12*jq+k/\E.length<=432*i+36*jq+3*k/\BU (Jdl Ls (Ls.drop (i+1)) (Jmy Ls pa (Ls.drop (jq+1)) (Jin Ls pa pb (Ls.drop k) (A,E)))=Rz)/\BU (Two w0 wy (BQ oa A.length ca) (BQ oe E.length ce) A E []))
     case atStart=>exact⟨jq+1,A,E,oa,oe,ca,ce,rfl,rfl,by go_num,Nat.le_refl _,by omega,rfl,by omega,by omega,HD,HT⟩
     case round =>
      clear HD HT hA hE;obtain⟨kk,A,E,oa,oe,ca,ce,rfl,rfl,rfl,hjk,hk,be,hA,hE,HD,HT⟩:=hrel;have tj:BU _:=be;clear be;by_cases hkt:kk<Ls.length
      ·have eT:=dj.out _ (Ja2 hkt);have HXC:BU _:=HC.out kk hkt;have HD:BU (Jdl Ls (Ls.drop (i+1)) (Jmy Ls pa (Ls.drop (jq+1)) (Jin Ls pa pb (Ls.drop (kk+1)) (Jn7 Ls pa pb (pt Ls kk) (A,E))))=Rz):=by show _=_;rw[<- HD.out,Jk0 hkt];rfl
       generalize pt Ls kk=pc at *;obtain⟨g',off',e',x0,x1,x2⟩:=uT.out;cases e';obtain⟨g',off',e',y0,y1,y2⟩:=HXB.out;cases e';obtain⟨g',off',e',z0,z1,z2⟩:=HXC.out;cases e';have XX:BU _:=And.intro x0 (And.intro x1 x2);have YY:BU _:=And.intro y0 (And.intro y1 y2);have ZZ:BU _:=And.intro z0 (And.intro z1 z2);have x0:=Ja HT.out.below x0;have x1:=Ja HT.out.below x1;have x2:=Ja HT.out.below x2;have y0:=Ja HT.out.below y0;have y1:=Ja HT.out.below y1;have y2:=Ja HT.out.below y2;have z0:=Ja HT.out.below z0;have z1:=Ja HT.out.below z1;have z2:=Ja HT.out.below z2;have fS:=Jja (Jcq eS cA) (Jcq eT cA);have L3:BU _:=fun w'=>Jif pa pb pc w' cA eS eT;have bG:BU _:=@Jsw Ls pa pb pc (A,E);have dh:BU _:=@Jsl Ls pa pb pc A E;generalize hTr:Jn7 Ls pa pb pc (A,E)=Tr at *;clear hTr;generalize(pb.sub pa).cross (pc.sub pa)=n at *;have vk:BU _:=fun w' (h:Lies w' (BQ (some ⟨g,off,none⟩) Ls.length c) Ls)=>Jsj _ Ls n pa w' h (by omega) dj.out cA fS;generalize Jfj Ls n pa=sd at *;unfold Pt.v at L3 vk;have dQ:(i:Int)<(Ls.length:Int):=by omega
       have lv:(jq:Int)<(Ls.length:Int):=by omega
       have mR:(kk:Int)<(Ls.length:Int):=by omega
       go_upto_region 12 with fail;refine Bq [.some (BQ (some ⟨g,off,none⟩) Ls.length c),.some (J Y (i:Int)),.some (BO (some ⟨g,off+i*3,none⟩)),.some (B_ #[J Y pa.x,J Y pa.y,J Y pa.z]),.some (BQ (some ⟨g,off,none⟩) Ls.length c),.some (J Y (jq:Int)),.some (BO (some ⟨g,off+jq*3,none⟩)),.some (B_ #[J Y pb.x,J Y pb.y,J Y pb.z]),.some (BQ (some ⟨g,off,none⟩) Ls.length c),.some (J Y (kk:Int)),.some (BO (some ⟨g,off+kk*3,none⟩)),.some (B_ #[J Y pc.x,J Y pc.y,J Y pc.z]),.some (B_ #[J Y n.x,J Y n.y,J Y n.z]),none,none] [39,40,41,42,43,44,45,46,47,48,49,50,51,10,0] [(0,BQ (some ⟨g,off,none⟩) Ls.length c),(6,J Y (i:Int)),(7,J Y (jq:Int)),(8,J Y (kk:Int))] (fun γ L w=>B9 wr.heap.size wr w/\RV.Pend wr 23 13 14 #[J Y n.x,J Y n.y,J Y n.z] γ L w) ⟨rfl,rfl,rfl,rfl,trivial⟩ ?_ ?_ ?_
       ·exact⟨(Below.refl _ wr).drew,RV.Pend.start rfl⟩
       ·intro D WA Z hD ah hZ T;simp only[RV.Outs,RV.Slots,Nat.reduceAdd]at T
        iterate 12 first
         |(refine Br _ (Bs T (fun γ v L w hl h=>⟨h.1,h.2.other v (by decide) (by decide)⟩) (fun γ L a w hH hl h9 k9=>⟨_,?_,rfl⟩)) ?_;· simp[JD,go_sem,h9])
         |(refine Br _ (Bs T (fun γ v L w hl h=>⟨h.1,h.2.other v (by decide) (by decide)⟩) (fun γ L a w hH hl h9 k9=>⟨_,?_,rfl⟩)) ?_;· simp[JC]at k9;simp[JD,go_sem,h9,k9,dQ,lv,mR])
         |(refine Br _ (Bs T (fun γ v L w hl h=>⟨h.1,h.2.other v (by decide) (by decide)⟩) (fun γ L a w hH hl h9 k9=>⟨_,?_,rfl⟩)) ?_;· have v0:=Ja hH.glob.1 x0;have v1:=Ja hH.glob.1 x1;have v2:=Ja hH.glob.1 x2;simp[JC]at k9;simp[JD,go_sem,h9,k9,v0,v1,v2])
         |(refine Br _ (Bs T (fun γ v L w hl h=>⟨h.1,h.2.other v (by decide) (by decide)⟩) (fun γ L a w hH hl h9 k9=>⟨_,?_,rfl⟩)) ?_;· have v0:=Ja hH.glob.1 y0;have v1:=Ja hH.glob.1 y1;have v2:=Ja hH.glob.1 y2;simp[JC]at k9;simp[JD,go_sem,h9,k9,v0,v1,v2])
         |(refine Br _ (Bs T (fun γ v L w hl h=>⟨h.1,h.2.other v (by decide) (by decide)⟩) (fun γ L a w hH hl h9 k9=>⟨_,?_,rfl⟩)) ?_;· have v0:=Ja hH.glob.1 z0;have v1:=Ja hH.glob.1 z1;have v2:=Ja hH.glob.1 z2;simp[JC]at k9;simp[JD,go_sem,h9,k9,v0,v1,v2])
        refine Br _ (Bw (fun γ L a w hH hl hA=>by have h9:=T γ L a w hH;have k9:=hA;simp[JC]at k9;exact⟨179,#[B_ #[J Y pa.x,J Y pa.y,J Y pa.z],B_ #[J Y pb.x,J Y pb.y,J Y pb.z],B_ #[J Y pc.x,J Y pc.y,J Y pc.z]],by simp[go_sem,h9,k9],JA (L3.out w) (by rintro e w2 ⟨rfl,hb⟩;exact⟨_,rfl,rfl,fun j v _ h=>h.keep _,hH.glob.1.trans (hb.mono hH.glob.1.size),(hH.glob.2.below hb).other _ (by decide) (by decide)⟩)⟩)) ?_;refine Br _ (BJ (fun γ L a w hH hl hA=>by have gY:L 14=false:=Bu hH (Bv (j:=14) (i:=13) ah (by kernel_rfl)) hl;exact⟨BO (some ⟨w.heap.size,0,none⟩),w.alloc (BP #[J Y 0,J Y 0,J Y 0] 23),by simp[JD,go_sem],trivial,fun j v _ h=>h.keep _,hH.glob.1.alloc hH.glob.1.size _,RV.Pend.made _ rfl hH.glob.1.size gY (by decide)⟩)) ?_;refine Br _ (Bz (fun γ L a w hH hl hA=>by have h9:=T γ L a w hH;have k9:=hA;simp[JC]at k9;have l0:L 13=true:=hA ⟨13,.data⟩ (by simp) rfl;have e0:=hH.slot 13 9 (by rw[<- hD];rfl) l0;obtain⟨b,cs,ac,aj,ao,bM,_⟩:=hH.glob.2 l0;rw[ac]at e0;obtain⟨u0,u1,u2,rfl⟩:=Jv1 bM;have n_:w.cell? ⟨b,0,none⟩=some u0:=(by simp[World.cell?,ao]);have od:w.cell? ⟨b,1,none⟩=some u1:=(by simp[World.cell?,ao]);have og:w.cell? ⟨b,2,none⟩=some u2:=(by simp[World.cell?,ao]);have zf:∀ o,w.frozen? ⟨b,o,none⟩=false:=fun o=>(by simp[World.frozen?,ao]);exact⟨(((w.setCell ⟨b,0,none⟩ (J Y n.x)).setCell ⟨b,1,none⟩ (J Y n.y)).setCell ⟨b,2,none⟩ (J Y n.z)),by simp[JD,go_sem,e0,n_,od,og,zf,h9,k9],trivial,fun j v _ h=>h.keep _,((hH.glob.1.setCell aj _).setCell aj _).setCell aj _,RV.Pend.filled ac aj (by have q0:=Go.heap_setCell_same w b 0 _ _ (J Y n.x) ao;have q1:=Go.heap_setCell_same _ b 1 _ _ (J Y n.y) q0;have q2:=Go.heap_setCell_same _ b 2 _ _ (J Y n.z) q1;simpa using q2) (by decide) _⟩)) ?_;exact RV.AllDo.nil
       ·intro γ w5 L9 hL aX aD;obtain⟨bn,cs,ac,aj,ao,_,cB⟩:=aD.2 (hL 13 (by decide));rw[cB (hL 14 (by decide))]at ao;have gh:=aD.1;clear hL cB aX aD;simp only[RV.putL,Act.put,JH,JG,JF,Nat.reduceAdd];rw[ac];obtain⟨W5,mr⟩:∃ X:BV,X=w5:=⟨_,rfl⟩
        rw[<- mr]at gh ao ⊢;have BN:BU (Box3 W5 bn n):=⟨by simp[World.cell?,ao],by simp[World.cell?,ao],by simp[World.cell?,ao],by simp[World.frozen?,ao],by simp[World.frozen?,ao],by simp[World.frozen?,ao]⟩
        have HT:BU _:=HT.out.step gh;clear mr ac aj ao gh L3 x0 x1 x2 y0 y1 y2 z0 z1 z2;have x0:=Ja HT.out.below XX.out.1;have x1:=Ja HT.out.below XX.out.2.1;have x2:=Ja HT.out.below XX.out.2.2;obtain⟨q0,q1,q2,_,_,_⟩:=BN.out;go_upto_region 13 with fail;refine Bq [.some (BQ (some ⟨g,off,none⟩) Ls.length c),.some (B_ #[J Y n.x,J Y n.y,J Y n.z]),.some (BQ (some ⟨g,off,none⟩) Ls.length c),.some (J Y ((i:Int))),.some (BO (some ⟨g,off+i*3,none⟩)),.some (B_ #[J Y pa.x,J Y pa.y,J Y pa.z]),.some (J Y sd),.some (J Y sd)] [52,53,54,55,56,57,58,11] [(0,BQ (some ⟨g,off,none⟩) Ls.length c),(6,J Y ((i:Int))),(9,BO (some ⟨bn,0,none⟩))] (fun γ L w9=>B9 W5.heap.size W5 w9) ⟨rfl,rfl,rfl,trivial⟩ ?_ ?_ ?_
        ·exact(Below.refl _ W5).drew
        ·intro D WA Z hD ah hZ T;simp only[RV.Outs,RV.Slots,Nat.reduceAdd]at T
         iterate 6 first
          |(refine Br _ (Bs T (fun γ v L w hl h=>h) (fun γ L a w hH hl h9 k9=>⟨_,?_,rfl⟩)) ?_;· simp[JD,go_sem,h9])
          |(refine Br _ (Bs T (fun γ v L w hl h=>h) (fun γ L a w hH hl h9 k9=>⟨_,?_,rfl⟩)) ?_;· simp[JC]at k9;simp[JD,go_sem,h9,k9,dQ])
          |(refine Br _ (Bs T (fun γ v L w hl h=>h) (fun γ L a w hH hl h9 k9=>⟨_,?_,rfl⟩)) ?_;· have ai:=hH.glob;have v0:=Ja ai x0;have v1:=Ja ai x1;have v2:=Ja ai x2;simp[JC]at k9;simp[JD,go_sem,h9,k9,v0,v1,v2])
          |(refine Br _ (Bs T (fun γ v L w hl h=>h) (fun γ L a w hH hl h9 k9=>⟨_,?_,rfl⟩)) ?_;· have ai:=hH.glob;have q0:=Ja ai q0;have q1:=Ja ai q1;have q2:=Ja ai q2;simp[JD,go_sem,h9,q0,q1,q2])
         refine Br _ (Bw (fun γ L a w hH hl hA=>by have h9:=T γ L a w hH;have k9:=hA;simp[JC]at k9;have ai:=hH.glob;exact⟨182,#[BQ (some ⟨g,off,none⟩) Ls.length c,B_ #[J Y n.x,J Y n.y,J Y n.z],B_ #[J Y pa.x,J Y pa.y,J Y pa.z]],by simp[go_sem,h9,k9],JA (vk.out w ((HV.out.below HT.out.below).below ai)) (by rintro e w2 ⟨rfl,hb⟩;exact⟨_,rfl,rfl,fun j v _ h=>h.keep _,ai.trans (hb.mono ai.size)⟩)⟩)) ?_
         (refine Br _ (Bs T (fun γ v L w hl h=>h) (fun γ L a w hH hl h9 k9=>⟨_,?_,rfl⟩)) ?_;· simp[JC]at k9;simp[JD,go_sem,h9,k9])
         exact RV.AllDo.nil
        ·intro γ w5 L9 hL aX aD;have bB:=aD;clear hL aX aD;simp only[RV.putL,Act.put,JH,JG,JF];have HT:BU _:=HT.out.step bB;have BN:BU _:=BN.out.step bB;clear bB q0 q1 q2 x0 x1 x2 vk;obtain⟨W6,ql⟩:∃ X:BV,X=w5:=⟨_,rfl⟩
         rw[<- ql]at HT BN ⊢;clear ql;obtain⟨q0,q1,q2,_,_,_⟩:=BN.out;go_upto_region 14 with fail;go_cut [64] from 32 to 137 (fun s64 wc=>s64 = BT (decide (n=Pt.O\/sd=0))/\wc=W6)
         case first =>
          by_cases ex:n.x=0
          ·by_cases ey:n.y=0
           ·by_cases ez:n.z=0
            ·go_wp2_with (fail);go_meet
             case rel=>exact⟨by simp[Jbl,Pt.O,ex,ey,ez],rfl⟩
            ·have e1:(n.z == 0)=false:=beq_eq_false_iff_ne.2 ez;go_wp2_with (fail);go_meet
             case rel=>exact⟨by simp[Jbl,Pt.O,ez];exact Jdw sd 0,rfl⟩
           ·have e1:(n.y == 0)=false:=beq_eq_false_iff_ne.2 ey;go_wp2_with (fail);go_meet
            case rel=>exact⟨by simp[Jbl,Pt.O,ey];exact Jdw sd 0,rfl⟩
          ·have e1:(n.x == 0)=false:=beq_eq_false_iff_ne.2 ex;go_wp2_with (fail);go_meet
           case rel=>exact⟨by simp[Jbl,Pt.O,ex];exact Jdw sd 0,rfl⟩
         case rest =>
          obtain⟨rfl,rW⟩:=hcut;subst rW;clear q0 q1 q2;by_cases di:n=Pt.O\/sd=0
          ·have e:Tr=(A,E):=bG.out di;rw[decide_eq_true di];subst e;clear bG dh di;go_wp2_with (fail)
           go_roundg (Ls.length-(kk+1))
           case measure=>have:=tj.out;omega
           case rel=>exact⟨kk+1,A,E,oa,oe,ca,ce,rfl,rfl,by go_num,by omega,by omega,rfl,by omega,by omega,HD,HT⟩
          ·obtain⟨e,hsd⟩:=dh.out di;rw[decide_eq_false di];subst e;clear bG dh di;go_upto_region 15 with fail;go_cut [11] from 32 to 137 (fun s11 wx=>∃ b:Nat,s11 = BO (some ⟨b,0,none⟩)/\BU (Box3 wx b (Jr6 sd n).short)/\BU (Two w0 wx (BQ oa A.length ca) (BQ oe E.length ce) A E []))
           case first =>
            obtain⟨q0,q1,q2,_,_,_⟩:=BN.out;have nb:=(Pt.inB_iff _ _).1 fS;rcases hsd with rfl | rfl
            ·go_wp2_with (fail);refine JA (Jdh n _) ?_;rintro e W7 ⟨rfl,hb⟩;have HT:BU _:=(HT.out.step hb).step (Jb _ (BP #[J Y n.short.x,J Y n.short.y,J Y n.short.z] 23));clear hb;unfold Pt.v;go_wp2_with (fail);go_meet
             case rel=>exact⟨_,rfl,Box3.new W7 n.short.x n.short.y n.short.z _,HT⟩
            ·have m1:IntKind.i64.wrap (-1*n.x) = -n.x:=by rw[IntKind.wrap_i64];omega
             have m2:IntKind.i64.wrap (-1*n.y) = -n.y:=by rw[IntKind.wrap_i64];omega
             have m3:IntKind.i64.wrap (-1*n.z) = -n.z:=by rw[IntKind.wrap_i64];omega
             have m4:IntKind.i64.wrap (-n.x) = -n.x:=by rw[IntKind.wrap_i64];omega
             have m5:IntKind.i64.wrap (-n.y) = -n.y:=by rw[IntKind.wrap_i64];omega
             have m6:IntKind.i64.wrap (-n.z) = -n.z:=by rw[IntKind.wrap_i64];omega
             go_wp2_with (fail);refine JA (Jdh n.neg _) ?_;rintro e W7 ⟨rfl,hb⟩;have HT:BU _:=(HT.out.step hb).step (Jb _ (BP #[J Y n.neg.short.x,J Y n.neg.short.y,J Y n.neg.short.z] 23));clear hb;unfold Pt.v;go_wp2_with (fail);go_meet
             case rel=>exact⟨_,rfl,Box3.new W7 n.neg.short.x n.neg.short.y n.neg.short.z _,HT⟩
           case rest =>
            clear HT BN;obtain⟨ba,rfl,BA,HT⟩:=hcut;have rv:=J8 (Jgz (Jr6 sd n)) (show(1048576:Int)<=1152921504606846976 by decide);generalize(Jr6 sd n).short=n3 at *;obtain⟨q0,q1,q2,_,_,_⟩:=BA.out;have hAs:A.length<=1000000:=by omega
            have HH:BU _:=Jpd _ A n3 false wc (Lies.of_row HT.out.ra) hAs rv;rw[Jui]at HH;unfold Pt.v at HH;go_wp2_with (fail);refine JA HH.out ?_;clear HH;rintro e W8 ⟨rfl,hb⟩;have HT:BU _:=HT.out.step hb;have BA:BU _:=BA.out.step hb;clear hb q0 q1 q2
            go_upto_if 83 with fail
            go_cut [4,12] from 32 to 137 (fun s4 Bg wx=>∃(oa':Option Ce) (ca':Nat),s4 = BQ oa' (Jbk A n3).length ca'/\BU (Two w0 wx (BQ oa' (Jbk A n3).length ca') (BQ oe E.length ce) (Jbk A n3) E []))
            case first =>
             by_cases hm:n3∈A
             ·have hw:Jbk A n3=A:=by unfold Jbk;rw[if_pos hm]
              rw[decide_eq_true hm];have HW:BU _:=hw;clear hm hw;go_wp2_with (fail);go_meet
              case rel=>exact⟨oa,ca,by rw[HW.out],by rw[HW.out];exact HT⟩
             ·have hw:Jbk A n3=A ++ [n3]:=by unfold Jbk;rw[if_neg hm]
              rw[decide_eq_false hm];have HW:BU _:=hw;clear hm hw;obtain⟨q0,q1,q2,_,_,_⟩:=BA.out;have cF:=HT.out.below.size;go_wp2_with (at_builtin;refine wpList_append_own_at _ rfl _ _ 24 rfl w0.heap.size 23 i0 _ 3 24 underlying24 HI.out.1 HI.out.2.1 HI.out.2.2.1 HI.out.2.2.2 rfl (by decide) _ _ _ rfl (Jq HT.out.ra (Jb W8 _)) ⟨W8.heap.size,0,none⟩ 1 1 [J Y n3.x,J Y n3.y,J Y n3.z] rfl rfl (Jcj (heap_alloc_new W8 _)) (by intro u hu;simp at hu;rcases hu with rfl | rfl | rfl <;> rfl) (by unfold maxLen;omega) (by omega) (by simp;omega) ?_;intro u9 V2 r8 g8 _ s8);have bD:V2.ownsRow w0.heap.size 23 3 u9 (A ++ [n3]).length (fl3 (A ++ [n3])):=by rw[Ja6,List.length_append];exact r8
              have mI:=(HT.out.step (Jb W8 (BP #[J Y n3.x,J Y n3.y,J Y n3.z] 23))).axis bD ⟨g8,by rcases s8 with e | e;exact Or.inl e;exact Or.inr ⟨_,e,Nat.le_refl _⟩⟩;obtain⟨o9,c9,rfl,_⟩:=(Lies.of_row bD).form;go_meet
              case rel=>exact⟨o9,c9,by rw[HW.out],by rw[HW.out];exact mI⟩
            case rest =>
             clear HT BA;obtain⟨oa',ca',rfl,HT⟩:=hcut;have hA':=Jrx A n3;generalize Jbk A n3=A' at *;go_upto_region 19 with fail;have L1:BU _:=fun w'=>Jcp pb pa w' (J8 eS (by decide)) (J8 cA (by decide));have L2:BU _:=fun w'=>Jcp pc pa w' (J8 eT (by decide)) (J8 cA (by decide));have L3:BU _:=fun w'=>Jcp pc pb w' (J8 eT (by decide)) (J8 eS (by decide));have M1:BU _:=fun w'=>Jdh (pb.sub pa) w';have M2:BU _:=fun w'=>Jdh (pc.sub pa) w';have M3:BU _:=fun w'=>Jdh (pc.sub pb) w';unfold Pt.v at L1 L2 L3 M1 M2 M3;have x0:=Ja HT.out.below XX.out.1;have x1:=Ja HT.out.below XX.out.2.1;have x2:=Ja HT.out.below XX.out.2.2;have y0:=Ja HT.out.below YY.out.1;have y1:=Ja HT.out.below YY.out.2.1;have y2:=Ja HT.out.below YY.out.2.2;have z0:=Ja HT.out.below ZZ.out.1;have z1:=Ja HT.out.below ZZ.out.2.1;have z2:=Ja HT.out.below ZZ.out.2.2;obtain⟨Wx,AO⟩:∃ X:BV,X=wc:=⟨_,rfl⟩
             rw[<- AO]at HT x0 x1 x2 y0 y1 y2 z0 z1 z2 ⊢;clear AO;refine RV.region_by (fun j v w=>match j with | 0=>v = BQ (some ⟨g,off,none⟩) Ls.length c | 1=>v=J Y (jq:Int) | 2=>v = BO (some ⟨g,off+jq*3,none⟩) | 3=>v = B_ #[J Y pb.x,J Y pb.y,J Y pb.z] | 4=>v = BQ (some ⟨g,off,none⟩) Ls.length c | 5=>v=J Y (i:Int) | 6=>v = BO (some ⟨g,off+i*3,none⟩) | 7=>v = B_ #[J Y pa.x,J Y pa.y,J Y pa.z] | 8=>v = B_ #[J Y ((pb.sub pa)).x,J Y ((pb.sub pa)).y,J Y ((pb.sub pa)).z] | 9=>v = B_ #[J Y ((pb.sub pa).short).x,J Y ((pb.sub pa).short).y,J Y ((pb.sub pa).short).z] | 10=>v = BQ (some ⟨g,off,none⟩) Ls.length c | 11=>v=J Y (kk:Int) | 12=>v = BO (some ⟨g,off+kk*3,none⟩) | 13=>v = B_ #[J Y pc.x,J Y pc.y,J Y pc.z] | 14=>v = BQ (some ⟨g,off,none⟩) Ls.length c | 15=>v=J Y (i:Int) | 16=>v = BO (some ⟨g,off+i*3,none⟩) | 17=>v = B_ #[J Y pa.x,J Y pa.y,J Y pa.z] | 18=>v = B_ #[J Y ((pc.sub pa)).x,J Y ((pc.sub pa)).y,J Y ((pc.sub pa)).z] | 19=>v = B_ #[J Y ((pc.sub pa).short).x,J Y ((pc.sub pa).short).y,J Y ((pc.sub pa).short).z] | 20=>v = BQ (some ⟨g,off,none⟩) Ls.length c | 21=>v=J Y (kk:Int) | 22=>v = BO (some ⟨g,off+kk*3,none⟩) | 23=>v = B_ #[J Y pc.x,J Y pc.y,J Y pc.z] | 24=>v = BQ (some ⟨g,off,none⟩) Ls.length c | 25=>v=J Y (jq:Int) | 26=>v = BO (some ⟨g,off+jq*3,none⟩) | 27=>v = B_ #[J Y pb.x,J Y pb.y,J Y pb.z] | 28=>v = B_ #[J Y ((pc.sub pb)).x,J Y ((pc.sub pb)).y,J Y ((pc.sub pb)).z] | 29=>v = B_ #[J Y ((pc.sub pb).short).x,J Y ((pc.sub pb).short).y,J Y ((pc.sub pb).short).z] | 30=>(fun v w=>∃ g9,v = BQ (some ⟨g9,0,none⟩) 3 3/\Wx.heap.size<=g9/\g9<w.heap.size/\At w g9 [(pb.sub pa).short,(pc.sub pa).short,(pc.sub pb).short]) v w | 31=>(fun v w=>∃ g9,v = BQ (some ⟨g9,0,none⟩) 3 3/\Wx.heap.size<=g9/\g9<w.heap.size/\At w g9 [(pb.sub pa).short,(pc.sub pa).short,(pc.sub pb).short]) v w | _=>True) (fun γ L w=>B9 Wx.heap.size Wx w) (by kernel_rfl) (by kernel_rfl) (by kernel_rfl) (by kernel_rfl) ?_ ?_ ?_
             ·exact(Below.refl _ Wx).drew
             ·generalize hD:Jam _=D;generalize ah:Jai _=WA;generalize hZ:Act.mk _ _=Z;refine RV.AllDo.name ?_;intro R hR;have kn:RV.Kn R [.some (BQ (some ⟨g,off,none⟩) Ls.length c),.some (J Y (jq:Int)),.some (BO (some ⟨g,off+jq*3,none⟩)),.some (B_ #[J Y pb.x,J Y pb.y,J Y pb.z]),.some (BQ (some ⟨g,off,none⟩) Ls.length c),.some (J Y (i:Int)),.some (BO (some ⟨g,off+i*3,none⟩)),.some (B_ #[J Y pa.x,J Y pa.y,J Y pa.z]),.some (B_ #[J Y ((pb.sub pa)).x,J Y ((pb.sub pa)).y,J Y ((pb.sub pa)).z]),.some (B_ #[J Y ((pb.sub pa).short).x,J Y ((pb.sub pa).short).y,J Y ((pb.sub pa).short).z]),.some (BQ (some ⟨g,off,none⟩) Ls.length c),.some (J Y (kk:Int)),.some (BO (some ⟨g,off+kk*3,none⟩)),.some (B_ #[J Y pc.x,J Y pc.y,J Y pc.z]),.some (BQ (some ⟨g,off,none⟩) Ls.length c),.some (J Y (i:Int)),.some (BO (some ⟨g,off+i*3,none⟩)),.some (B_ #[J Y pa.x,J Y pa.y,J Y pa.z]),.some (B_ #[J Y ((pc.sub pa)).x,J Y ((pc.sub pa)).y,J Y ((pc.sub pa)).z]),.some (B_ #[J Y ((pc.sub pa).short).x,J Y ((pc.sub pa).short).y,J Y ((pc.sub pa).short).z]),.some (BQ (some ⟨g,off,none⟩) Ls.length c),.some (J Y (kk:Int)),.some (BO (some ⟨g,off+kk*3,none⟩)),.some (B_ #[J Y pc.x,J Y pc.y,J Y pc.z]),.some (BQ (some ⟨g,off,none⟩) Ls.length c),.some (J Y (jq:Int)),.some (BO (some ⟨g,off+jq*3,none⟩)),.some (B_ #[J Y pb.x,J Y pb.y,J Y pb.z]),.some (B_ #[J Y ((pc.sub pb)).x,J Y ((pc.sub pb)).y,J Y ((pc.sub pb)).z]),.some (B_ #[J Y ((pc.sub pb).short).x,J Y ((pc.sub pb).short).y,J Y ((pc.sub pb).short).z]),none,none] 0:=by rw[hR];exact⟨fun _ _=>Iff.rfl,fun _ _=>Iff.rfl,fun _ _=>Iff.rfl,fun _ _=>Iff.rfl,fun _ _=>Iff.rfl,fun _ _=>Iff.rfl,fun _ _=>Iff.rfl,fun _ _=>Iff.rfl,fun _ _=>Iff.rfl,fun _ _=>Iff.rfl,fun _ _=>Iff.rfl,fun _ _=>Iff.rfl,fun _ _=>Iff.rfl,fun _ _=>Iff.rfl,fun _ _=>Iff.rfl,fun _ _=>Iff.rfl,fun _ _=>Iff.rfl,fun _ _=>Iff.rfl,fun _ _=>Iff.rfl,fun _ _=>Iff.rfl,fun _ _=>Iff.rfl,fun _ _=>Iff.rfl,fun _ _=>Iff.rfl,fun _ _=>Iff.rfl,fun _ _=>Iff.rfl,fun _ _=>Iff.rfl,fun _ _=>Iff.rfl,fun _ _=>Iff.rfl,fun _ _=>Iff.rfl,fun _ _=>Iff.rfl,trivial⟩
              have T:=RV.kfacts [89,90,91,92,93,94,95,96,97,98,99,100,101,102,103,104,105,106,107,108,109,110,111,112,113,114,115,116,117,118,119,14] [(0,BQ (some ⟨g,off,none⟩) Ls.length c),(6,J Y (i:Int)),(7,J Y (jq:Int)),(8,J Y (kk:Int))] hD hZ kn ⟨rfl,rfl,rfl,rfl,trivial⟩ (by kernel_rfl) (by kernel_rfl);simp only[RV.Outs,RV.Slots,Nat.reduceAdd]at T;have rA:∀ v w,R 30 v w=((fun v w=>∃ g9,v = BQ (some ⟨g9,0,none⟩) 3 3/\Wx.heap.size<=g9/\g9<w.heap.size/\At w g9 [(pb.sub pa).short,(pc.sub pa).short,(pc.sub pb).short]) v w):=fun v w=>by rw[hR];rfl
              have vn:∀ v w,R 31 v w=((fun v w=>∃ g9,v = BQ (some ⟨g9,0,none⟩) 3 3/\Wx.heap.size<=g9/\g9<w.heap.size/\At w g9 [(pb.sub pa).short,(pc.sub pa).short,(pc.sub pb).short]) v w):=fun v w=>by rw[hR];rfl
              have K:∀ j v w w',B9 w.heap.size w w'->R j v w->R j v w':=by
               rw[hR];intro j v w w' hb h
               revert h
               dsimp only
               split
               all_goals first | exact id | exact(fun⟨g9,t1,t2,t3,t4⟩=>⟨g9,t1,t2,Nat.lt_of_lt_of_le t3 hb.size,t4.below hb⟩)
              iterate 8 first
               |(refine Br _ (BK kn T (fun γ v L w hl h=>h) (fun γ L a w hH hl h9 k9=>⟨_,?_,rfl⟩)) ?_;· simp[JD,go_sem,h9])
               |(refine Br _ (BK kn T (fun γ v L w hl h=>h) (fun γ L a w hH hl h9 k9=>⟨_,?_,rfl⟩)) ?_;· simp[JC]at k9;simp[JD,go_sem,h9,k9,lv,dQ])
               |(refine Br _ (BK kn T (fun γ v L w hl h=>h) (fun γ L a w hH hl h9 k9=>⟨_,?_,rfl⟩)) ?_;· have v0:=Ja hH.glob y0;have v1:=Ja hH.glob y1;have v2:=Ja hH.glob y2;simp[JC]at k9;simp[JD,go_sem,h9,k9,v0,v1,v2])
               |(refine Br _ (BK kn T (fun γ v L w hl h=>h) (fun γ L a w hH hl h9 k9=>⟨_,?_,rfl⟩)) ?_;· have v0:=Ja hH.glob x0;have v1:=Ja hH.glob x1;have v2:=Ja hH.glob x2;simp[JC]at k9;simp[JD,go_sem,h9,k9,v0,v1,v2])
              refine Br _ (Bw (fun γ L a w hH hl hA=>by have h9:=T _ _ γ L a w hH;have k9:=hA;simp[JC]at k9;exact⟨181,#[B_ #[J Y pb.x,J Y pb.y,J Y pb.z],B_ #[J Y pa.x,J Y pa.y,J Y pa.z]],by simp[go_sem,h9,k9],JA (L1.out w) (by rintro e w2 ⟨rfl,hb⟩;exact⟨_,rfl,((kn.at (k:=8) rfl _ _).2 rfl),fun j v _ h=>K j v _ _ hb h,hH.glob.trans (hb.mono hH.glob.size)⟩)⟩)) ?_;refine Br _ (Bw (fun γ L a w hH hl hA=>by have h9:=T _ _ γ L a w hH;have k9:=hA;simp[JC]at k9;exact⟨183,#[B_ #[J Y ((pb.sub pa)).x,J Y ((pb.sub pa)).y,J Y ((pb.sub pa)).z]],by simp[go_sem,h9,k9],JA (M1.out w) (by rintro e w2 ⟨rfl,hb⟩;exact⟨_,rfl,((kn.at (k:=9) rfl _ _).2 rfl),fun j v _ h=>K j v _ _ hb h,hH.glob.trans (hb.mono hH.glob.size)⟩)⟩)) ?_
              iterate 8 first
               |(refine Br _ (BK kn T (fun γ v L w hl h=>h) (fun γ L a w hH hl h9 k9=>⟨_,?_,rfl⟩)) ?_;· simp[JD,go_sem,h9])
               |(refine Br _ (BK kn T (fun γ v L w hl h=>h) (fun γ L a w hH hl h9 k9=>⟨_,?_,rfl⟩)) ?_;· simp[JC]at k9;simp[JD,go_sem,h9,k9,mR,dQ])
               |(refine Br _ (BK kn T (fun γ v L w hl h=>h) (fun γ L a w hH hl h9 k9=>⟨_,?_,rfl⟩)) ?_;· have v0:=Ja hH.glob z0;have v1:=Ja hH.glob z1;have v2:=Ja hH.glob z2;simp[JC]at k9;simp[JD,go_sem,h9,k9,v0,v1,v2])
               |(refine Br _ (BK kn T (fun γ v L w hl h=>h) (fun γ L a w hH hl h9 k9=>⟨_,?_,rfl⟩)) ?_;· have v0:=Ja hH.glob x0;have v1:=Ja hH.glob x1;have v2:=Ja hH.glob x2;simp[JC]at k9;simp[JD,go_sem,h9,k9,v0,v1,v2])
              refine Br _ (Bw (fun γ L a w hH hl hA=>by have h9:=T _ _ γ L a w hH;have k9:=hA;simp[JC]at k9;exact⟨181,#[B_ #[J Y pc.x,J Y pc.y,J Y pc.z],B_ #[J Y pa.x,J Y pa.y,J Y pa.z]],by simp[go_sem,h9,k9],JA (L2.out w) (by rintro e w2 ⟨rfl,hb⟩;exact⟨_,rfl,((kn.at (k:=18) rfl _ _).2 rfl),fun j v _ h=>K j v _ _ hb h,hH.glob.trans (hb.mono hH.glob.size)⟩)⟩)) ?_;refine Br _ (Bw (fun γ L a w hH hl hA=>by have h9:=T _ _ γ L a w hH;have k9:=hA;simp[JC]at k9;exact⟨183,#[B_ #[J Y ((pc.sub pa)).x,J Y ((pc.sub pa)).y,J Y ((pc.sub pa)).z]],by simp[go_sem,h9,k9],JA (M2.out w) (by rintro e w2 ⟨rfl,hb⟩;exact⟨_,rfl,((kn.at (k:=19) rfl _ _).2 rfl),fun j v _ h=>K j v _ _ hb h,hH.glob.trans (hb.mono hH.glob.size)⟩)⟩)) ?_
              iterate 8 first
               |(refine Br _ (BK kn T (fun γ v L w hl h=>h) (fun γ L a w hH hl h9 k9=>⟨_,?_,rfl⟩)) ?_;· simp[JD,go_sem,h9])
               |(refine Br _ (BK kn T (fun γ v L w hl h=>h) (fun γ L a w hH hl h9 k9=>⟨_,?_,rfl⟩)) ?_;· simp[JC]at k9;simp[JD,go_sem,h9,k9,mR,lv])
               |(refine Br _ (BK kn T (fun γ v L w hl h=>h) (fun γ L a w hH hl h9 k9=>⟨_,?_,rfl⟩)) ?_;· have v0:=Ja hH.glob z0;have v1:=Ja hH.glob z1;have v2:=Ja hH.glob z2;simp[JC]at k9;simp[JD,go_sem,h9,k9,v0,v1,v2])
               |(refine Br _ (BK kn T (fun γ v L w hl h=>h) (fun γ L a w hH hl h9 k9=>⟨_,?_,rfl⟩)) ?_;· have v0:=Ja hH.glob y0;have v1:=Ja hH.glob y1;have v2:=Ja hH.glob y2;simp[JC]at k9;simp[JD,go_sem,h9,k9,v0,v1,v2])
              refine Br _ (Bw (fun γ L a w hH hl hA=>by have h9:=T _ _ γ L a w hH;have k9:=hA;simp[JC]at k9;exact⟨181,#[B_ #[J Y pc.x,J Y pc.y,J Y pc.z],B_ #[J Y pb.x,J Y pb.y,J Y pb.z]],by simp[go_sem,h9,k9],JA (L3.out w) (by rintro e w2 ⟨rfl,hb⟩;exact⟨_,rfl,((kn.at (k:=28) rfl _ _).2 rfl),fun j v _ h=>K j v _ _ hb h,hH.glob.trans (hb.mono hH.glob.size)⟩)⟩)) ?_;refine Br _ (Bw (fun γ L a w hH hl hA=>by have h9:=T _ _ γ L a w hH;have k9:=hA;simp[JC]at k9;exact⟨183,#[B_ #[J Y ((pc.sub pb)).x,J Y ((pc.sub pb)).y,J Y ((pc.sub pb)).z]],by simp[go_sem,h9,k9],JA (M3.out w) (by rintro e w2 ⟨rfl,hb⟩;exact⟨_,rfl,((kn.at (k:=29) rfl _ _).2 rfl),fun j v _ h=>K j v _ _ hb h,hH.glob.trans (hb.mono hH.glob.size)⟩)⟩)) ?_;refine Br _ (BJ (fun γ L a w hH hl hA=>by have h9:=T _ _ γ L a w hH;have k9:=hA;simp[JC]at k9;exact⟨BQ (some ⟨w.heap.size,0,none⟩) 3 3,w.alloc (BP #[J Y (pb.sub pa).short.x,J Y (pb.sub pa).short.y,J Y (pb.sub pa).short.z,J Y (pc.sub pa).short.x,J Y (pc.sub pa).short.y,J Y (pc.sub pa).short.z,J Y (pc.sub pb).short.x,J Y (pc.sub pb).short.y,J Y (pc.sub pb).short.z] 23),by simp[JD,go_sem,h9,k9],(rA _ _).mpr ⟨w.heap.size,rfl,hH.glob.size,by simp,Jvn w (pb.sub pa).short (pc.sub pa).short (pc.sub pb).short _⟩,fun j v _ h=>K j v _ _ (Jb w _) h,hH.glob.trans ((Jb w _).mono hH.glob.size)⟩)) ?_;refine Br _ (RV.dp (fun γ v L w hl h=>h) (fun γ L a w hH hl hA=>by have l0:L 30=true:=hA ⟨30,.data⟩ (by simp) rfl;have e0:=hH.slot 30 118 (by rw[<- hD];rfl) l0;have g0:=hH.holds 30 l0;rw[rA]at g0;exact⟨γ 30,by simp[JD,go_sem,e0],(vn _ _).mpr g0⟩)) ?_;exact RV.AllDo.nil
             ·intro γ a5 w5 L9 hL dU hH;have ha:=RV.held_act hH hL (by kernel_rfl) (by kernel_rfl);obtain⟨g9,m9,yg,yl,yat⟩:∃ g9,γ 31 = BQ (some ⟨g9,0,none⟩) 3 3/\Wx.heap.size<=g9/\g9<w5.heap.size/\At w5 g9 [(pb.sub pa).short,(pc.sub pa).short,(pc.sub pb).short]:=hH.holds 31 (hL 31 (by decide));have bB:=hH.glob;rw[ha];clear ha hH hL dU;simp only[RV.putAll,Act.put,JH,JG,JF,Nat.zero_add,Nat.reduceAdd];rw[m9];have na:(Value.slice oa' A'.length ca').ownBlock≠some g9:=fun e=>by have:=(HT.out.ra.lt _ e).2;omega
              have ne:(Value.slice oe E.length ce).ownBlock≠some g9:=fun e=>by have:=(HT.out.re.lt _ e).2;omega
              have HT:BU _:=HT.out.step bB;have gZ:BU _:=yat;have i1:=J8 (Jgz (pb.sub pa)) (show(1048576:Int)<=1152921504606846976 by decide);have i2:=J8 (Jgz (pc.sub pa)) (show(1048576:Int)<=1152921504606846976 by decide);have i3:=J8 (Jgz (pc.sub pb)) (show(1048576:Int)<=1152921504606846976 by decide);generalize(pb.sub pa).short=t1 at *;generalize(pc.sub pa).short=t2 at *;generalize(pc.sub pb).short=t3 at *;have HTI:BU (∀ m,m<3->(pt [t1,t2,t3] m).inB 1152921504606846976=true):=fun m hm=>by
               match m,hm with
               | 0,_=>exact i1
               | 1,_=>exact i2
               | 2,_=>exact i3
              clear bB m9 yat x0 x1 x2 y0 y1 y2 z0 z1 z2 L1 L2 L3 M1 M2 M3 i1 i2 i3;obtain⟨Wy,AP⟩:∃ X:BV,X=w5:=⟨_,rfl⟩
              rw[<- AP]at HT gZ yl ⊢;clear AP;have kO:BU (Jdj (Jdj (Jdj E t1) t2) t3 = [t1,t2,t3].foldl Jdj E):=rfl;rw[kO.out]at HD;clear kO;generalize hQQ:[t1,t2,t3]=QQ at *;have hQl:QQ.length=3:=by rw[<- hQQ];rfl
              clear hQQ;go_wp2_with (fail)
              go_loopg [5,14] 3 (fun gm s5 yp wz=>∃(m:Nat) (E2:List Pt) (mD:Option Ce) (mE:Nat),s5 = BQ mD E2.length mE/\yp=J Y (m:Int)/\m<=3/\gm=3-m/\E2.length<=E.length+m/\BU ((QQ.take m).foldl Jdj E=E2)/\BU (Two w0 wz (BQ oa' A'.length ca') (BQ mD E2.length mE) A' E2 [])/\BU (At wz g9 QQ/\(Value.slice mD E2.length mE).ownBlock≠some g9/\g9<wz.heap.size))
              case atStart=>exact⟨0,E,oe,ce,rfl,rfl,by omega,rfl,by omega,rfl,HT,gZ.out,ne,yl⟩
              case round =>
               clear HT gZ ne yl;obtain⟨m,E2,mD,mE,rfl,rfl,hm,be,hE2,HF,HT,gZ⟩:=hrel;have tk:BU _:=be;clear be;by_cases qA:m<3
               ·obtain⟨x0,x1,x2⟩:=gZ.out.1 m (by omega);have vo:=HTI.out m qA;have HF:BU ((QQ.take (m+1)).foldl Jdj E=Jdj E2 (pt QQ m)):=by show _=_;rw[Jb6 (by omega),List.foldl_append,HF.out];rfl
                generalize pt QQ m=q at *;have hEs:E2.length<=1000000:=by omega
                have HH:BU _:=fun w' (h:Lies w' (BQ mD E2.length mE) E2)=>Jpd _ E2 q true w' h hEs vo;unfold Pt.v at HH;have vh:(m:Int)<3:=by omega
                go_wp2_with (fail);refine JA (HH.out _ (Lies.of_row HT.out.re)) ?_;clear HH;rintro e W9 ⟨rfl,hb⟩;rw[Jvg];have HT:BU _:=HT.out.step hb;have x0:=Ja hb x0;have x1:=Ja hb x1;have x2:=Ja hb x2;have gZ:BU (At W9 g9 QQ/\(Value.slice mD E2.length mE).ownBlock≠some g9/\g9<W9.heap.size):=⟨gZ.out.1.below hb,gZ.out.2.1,Nat.lt_of_lt_of_le gZ.out.2.2 hb.size⟩
                clear hb;by_cases hq:q∈E2\/q.neg∈E2
                ·have hw:Jdj E2 q=E2:=by unfold Jdj;rw[if_pos hq]
                 have hd:(decide (q∈E2)||decide (q.neg∈E2))=true:=by simpa using hq
                 rw[hd];rw[hw]at HF;clear hq hw hd x0 x1 x2;go_wp2_with (fail)
                 go_roundg (3-(m+1))
                 case measure=>have:=tk.out;omega
                 case rel=>exact⟨m+1,E2,mD,mE,rfl,by go_num,by omega,rfl,by omega,HF,HT,gZ⟩
                ·have hw:Jdj E2 q=E2 ++ [q]:=by unfold Jdj;rw[if_neg hq]
                 have hd:(decide (q∈E2)||decide (q.neg∈E2))=false:=by simpa using hq
                 rw[hd];rw[hw]at HF;clear hq hw hd;have cF:=HT.out.below.size;go_wp2_with (at_builtin;refine wpList_append_own_at _ rfl _ _ 24 rfl w0.heap.size 23 i0 _ 3 24 underlying24 HI.out.1 HI.out.2.1 HI.out.2.2.1 HI.out.2.2.2 rfl (by decide) _ _ _ rfl (Jq HT.out.re (Jb W9 _)) ⟨W9.heap.size,0,none⟩ 1 1 [J Y q.x,J Y q.y,J Y q.z] rfl rfl (Jcj (heap_alloc_new W9 _)) (by intro u hu;simp at hu;rcases hu with rfl | rfl | rfl <;> rfl) (by unfold maxLen;omega) (by omega) (by simp;omega) ?_;intro u9 V2 r8 g8 _ s8);have bD:V2.ownsRow w0.heap.size 23 3 u9 (E2 ++ [q]).length (fl3 (E2 ++ [q])):=by rw[Ja6,List.length_append];exact r8
                 have iD:Grew (W9.alloc (BP #[J Y q.x,J Y q.y,J Y q.z] 23)) V2 (BQ mD E2.length mE) u9:=⟨g8,by rcases s8 with e | e;exact Or.inl e;exact Or.inr ⟨_,e,Nat.le_refl _⟩⟩
                 have mI:=(HT.out.step (Jb W9 (BP #[J Y q.x,J Y q.y,J Y q.z] 23))).edge bD iD;have rB:At V2 g9 QQ/\u9.ownBlock≠some g9/\g9<V2.heap.size:=by
                  refine⟨(gZ.out.1.below (Jb W9 _)).grown iD.grown gZ.out.2.1,fun e=>?_,?_⟩
                  ·have k:=gZ.out.2.2;rcases iD.same with s |⟨k9,s,vH⟩
                   ·exact gZ.out.2.1 (s▸e)
                   ·rw[s]at e;cases e;simp at vH;omega
                  ·have k:=gZ.out.2.2;have k2:=iD.grown.size;simp at k2;omega
                 obtain⟨o9,c9,rfl,_⟩:=(Lies.of_row bD).form;have mI:BU _:=mI;have vr:BU _:=rB;clear r8 g8 s8 bD iD rB
                 go_roundg (3-(m+1))
                 case measure=>have:=tk.out;omega
                 case rel=>exact⟨m+1,E2 ++ [q],o9,c9,rfl,by go_num,by omega,rfl,by rw[List.length_append];simp;omega,HF,mI,vr⟩
               ·have e:m=3:=by omega
                subst e;have HF:BU (QQ.foldl Jdj E=E2):=by show _=_;rw[<- HF.out,List.take_of_length_le (by omega)]
                rw[HF.out]at HD;go_wp2_with (fail)
                go_roundg (Ls.length-(kk+1))
                case measure=>have:=tj.out;omega
                case rel=>exact⟨kk+1,A',E2,oa',mD,ca',mE,rfl,rfl,by go_num,by omega,by omega,rfl,by omega,by omega,HD,HT⟩
      ·have HD:BU (Jdl Ls (Ls.drop (i+1)) (Jmy Ls pa (Ls.drop (jq+1)) (A,E))=Rz):=by show _=_;rw[<- HD.out,List.drop_eq_nil_of_le (by omega:Ls.length<=kk)];rfl
       go_wp2_with (fail)
       go_roundg (Ls.length-(jq+1))
       case measure=>have:=gU.out;omega
       case rel=>exact⟨jq+1,A,E,oa,oe,ca,ce,rfl,rfl,by go_num,by omega,by omega,rfl,by omega,by omega,HD,HT⟩
    ·have HD:BU (Jdl Ls (Ls.drop (i+1)) (A,E)=Rz):=by show _=_;rw[<- HD.out,List.drop_eq_nil_of_le (by omega:Ls.length<=jq)];rfl
     go_wp2_with (fail)
     go_roundg (Ls.length-(i+1))
     case measure=>have:=eH.out;omega
     case rel=>exact⟨i+1,A,E,oa,oe,ca,ce,rfl,rfl,by go_num,by omega,rfl,by omega,by omega,HD,HT⟩
  ·have e:Rz=(A,E):=by rw[<- HD.out,List.drop_eq_nil_of_le (by omega:Ls.length<=i)];rfl
   subst e;go_wp2_with (fail)
   go_ret2
   exact⟨_,_,rfl,HT.out⟩
end
section
open Go.RowKit Go.Shelf Fx
def Jr8(a p:Pt):Pt:=⟨Jfb a.x p.x,Jfb a.y p.y,Jfb a.z p.z⟩
def Jr7(a p:Pt):Pt:=⟨Jbp a.x p.x,Jbp a.y p.y,Jbp a.z p.z⟩
def Jdb(P:List Pt)(k:Nat):Pt:=(P.take k).foldl Jr8 (pt P 0)
def Jb9(P:List Pt)(k:Nat):Pt:=(P.take k).foldl Jr7 (pt P 0)
theorem Jse(P:List Pt)(k:Nat)(hk:k<P.length):Jdb P (k+1)=Jr8 (Jdb P k) (pt P k):=by unfold Jdb;rw[Jb6 hk,List.foldl_append];rfl
theorem Jqk(P:List Pt)(k:Nat)(hk:k<P.length):Jb9 P (k+1)=Jr7 (Jb9 P k) (pt P k):=by unfold Jb9;rw[Jb6 hk,List.foldl_append];rfl
theorem Jfd(P:List Pt)(m:Int)(dN:∀ p∈P,p.inB m=true)(h0:0<P.length):∀ k,k<=P.length->(Jdb P k).inB m=true/\(Jb9 P k).inB m=true/\((Jdb P k).x<=(Jb9 P k).x/\(Jdb P k).y<=(Jb9 P k).y/\(Jdb P k).z<=(Jb9 P k).z):=by
 intro k
 induction k with
 | zero =>
  intro _;have:=dN _ (Ja2 h0);refine⟨this,this,Int.le_refl _,Int.le_refl _,Int.le_refl _⟩
 | succ k ih =>
  intro hk;obtain⟨h1,h2,h3⟩:=ih (by omega);have hp:=dN _ (Ja2 (show k<P.length by omega));rw[Jse P k (by omega),Jqk P k (by omega)];rw[Pt.inB_iff]at h1 h2 hp ⊢;rw[Pt.inB_iff];unfold Jr8 Jr7 Jfb Jbp;dsimp only;refine⟨⟨?_,?_,?_⟩,⟨?_,?_,?_⟩,?_,?_,?_⟩ <;> (split <;> first | omega |(split <;> omega))
def hw(lo hi r:Int):Int:=((hi-lo).tdiv 2+r)*1048576
def Jbo(P:List Pt)(r:Int):Pt:=⟨hw (Jdb P P.length).x (Jb9 P P.length).x r,hw (Jdb P P.length).y (Jb9 P P.length).y r,hw (Jdb P P.length).z (Jb9 P P.length).z r⟩
theorem Jf6{lo hi r:Int}(h1:-65536<=lo)(h2:hi<=65536)(h3:lo<=hi)(h4:0<=r)(h5:r<=16384):0<=hw lo hi r/\hw lo hi r<=85899345920/\0<=(hi-lo).tdiv 2/\(hi-lo).tdiv 2<=65536:=by
 unfold hw;have e:(hi-lo).tdiv 2=(hi-lo) / 2:=Int.tdiv_eq_ediv_of_nonneg (by omega);rw[e];omega
def Jex(s:Sh)(m:Int):Pt:=if s.kind=1 then ⟨Jf2 m (s.radius*1048576),Jf2 m (s.radius*1048576),Jf2 m (s.radius*1048576)⟩ else ⟨Ji6 m (Jbo (Jcn s) s.radius).y (Jbo (Jcn s) s.radius).z,Ji6 m (Jbo (Jcn s) s.radius).z (Jbo (Jcn s) s.radius).x,Ji6 m (Jbo (Jcn s) s.radius).x (Jbo (Jcn s) s.radius).y⟩
end
section
open Go.RowKit Go.Shelf
theorem Jgx{s:Sh}(h:J9 s=0):(1<=s.kind/\s.kind<=4)/\(0<=s.radius/\s.radius<=16384)/\0<(Jcn s).length/\(Jcn s).length<=100/\∀ p∈Jcn s,p.inB 65536=true:=by
 have hf:Jbs s=true:=by
  cases hf:Jbs s with
  | true=>rfl
  | false=>unfold J9 at h;rw[hf]at h;simp at h
 obtain⟨k,r,⟨x,y,z⟩,L⟩:=s;unfold Jbs at hf;unfold Jcn;dsimp only at hf ⊢;by_cases k1:k=1
 ·subst k1;rw[if_pos rfl]at hf;have:=of_decide_eq_true hf;rw[if_pos rfl];exact⟨by omega,by omega,by simp,by simp,fun p hp=>by simp at hp;subst hp;decide⟩
 rw[if_neg k1]at hf ⊢;by_cases k2:k=2
 ·subst k2;rw[if_pos rfl,Bool.and_eq_true]at hf;have a:=of_decide_eq_true hf.1;have b:=of_decide_eq_true hf.2;rw[if_pos rfl];refine⟨by omega,by omega,by simp,by simp,fun p hp=>?_⟩;simp only[List.mem_cons,List.not_mem_nil,or_false]at hp;rw[Pt.inB_iff];rcases hp with rfl | rfl <;> (dsimp only;omega)
 rw[if_neg k2]at hf ⊢;by_cases k3:k=3
 ·subst k3;rw[if_pos rfl,Bool.and_eq_true,Bool.and_eq_true,Bool.and_eq_true]at hf;have a:=of_decide_eq_true hf.1;have b:=of_decide_eq_true hf.2.1;have c:=of_decide_eq_true hf.2.2.1;have d:=of_decide_eq_true hf.2.2.2;rw[if_pos rfl];refine⟨by omega,by omega,by simp[J4],by simp[J4],fun p hp=>?_⟩;simp only[J4,List.mem_cons,List.not_mem_nil,or_false]at hp;rw[Pt.inB_iff];rcases hp with rfl | rfl | rfl | rfl | rfl | rfl | rfl | rfl <;> (dsimp only;omega)
 rw[if_neg k3]at hf ⊢;by_cases k4:k=4
 ·subst k4;rw[if_pos rfl,Bool.and_eq_true]at hf;have a:=of_decide_eq_true hf.1;obtain⟨m1,m2,m3,m4⟩:=Jft hf.2;exact⟨by omega,by omega,by omega,by omega,m3⟩
 ·rw[if_neg k4]at hf;cases hf
theorem Jmg:∀(L:List Pt) (k:Nat),fl3 (L.drop k)=(fl3 L).drop (k*3)
 | L,0=>by simp
 | [],k+1=>by simp[fl3]
 | p::r,k+1=>by rw[show(k+1)*3=k*3+3 by omega];simp only[List.drop_succ_cons,fl3];exact Jmg r k
theorem Lies.read{w:BV}{g off n c:Nat}{L:List Pt}(h:Lies w (BQ (some ⟨g,off,none⟩) n c) L):∀(k:Nat) (M:List Pt),(∃ R,L.drop k=M++R)->∀ j u,(fl3 M)[j]?=some u->w.cell? ((⟨g,off+k*3,none⟩:Ce).add j)=some u:=by
 intro k M ⟨R,hR⟩ j u hj;obtain⟨o,cap,e,_,_,hc⟩:=h.cells;simp only[Value.slice.injEq]at e;obtain⟨rfl,rfl,rfl⟩:=e;have ad:(⟨g,off+k*3,none⟩:Ce).add j=⟨g,off+k*3+j,none⟩:=by unfold Addr.add;split <;> simp_all
 rw[ad];have hL:(fl3 L)[k*3+j]?=some u:=by
  rw[<- List.getElem?_drop,<- Jmg,hR,Ja6,List.getElem?_append_left (List.getElem?_eq_some_iff.1 hj).1];exact hj
 rcases hc with rfl |⟨g',off',e',hc⟩
 ·simp[fl3]at hL
 ·cases e';rw[Nat.add_assoc];exact hc _ _ hL
structure KS(w0 W:BV)(ba br b5:Nat)(sh:List B7)(r:B7)(u:B7)(M:List Pt):Prop where
 c1:Cells W ba sh
 c2:Cells W br [BQ none 0 0,BQ none 0 0,BQ none 0 0,J Y 0]
 c3:Cells W b5 [u,BQ none 0 0,BQ none 0 0,r]
 row:W.ownsRow w0.heap.size 23 3 u M.length (fl3 M)
 na:u.ownBlock≠some ba
 ns:u.ownBlock≠some br
 n3:u.ownBlock≠some b5
 below:B9 w0.heap.size w0 W
 l3:w0.heap.size<=b5
 d1:ba≠b5
 d2:br≠b5
 r0:∃ v,sh[0]?=some v
theorem KS.app{w0 V W:BV}{ba br b5:Nat}{sh:List B7}{r u u':B7}{M N:List Pt}(h:KS w0 V ba br b5 sh r u M)(hr:W.ownsRow w0.heap.size 23 3 u' N.length (fl3 N))(hg:Grew V W u u'):KS w0 (W.setCell ⟨b5,0,none⟩ u') ba br b5 sh r u' N:=by
 obtain⟨v0,e0⟩:=h.r0;have la:ba<V.heap.size:=JB _ _ (h.c1 0 _ e0).1;have ls:br<V.heap.size:=JB _ _ (h.c2 0 _ rfl).1;have l3:b5<V.heap.size:=JB _ _ (h.c3 0 _ rfl).1;have off:∀ b,b<V.heap.size->u.ownBlock≠some b->u'.ownBlock≠some b:=fun b hb ak e=>by
  rcases hg.same with s |⟨k,s,hk⟩
  ·exact ak (s▸e)
  ·rw[s]at e;cases e;omega
 exact⟨(h.c1.grown hg.grown h.na).put h.d1 _ _,(h.c2.grown hg.grown h.ns).put h.d2 _ _,(h.c3.grown hg.grown h.n3).set 0 u' (by simp),ownsRow_setCell_other hr (off _ l3 h.n3) _,off _ la h.na,off _ ls h.ns,off _ l3 h.n3,(h.below.grown hg.grown h.below.size (fun k e=>(h.row.lt k e).1)).setCell h.l3 _,h.l3,h.d1,h.d2,h.r0⟩
theorem KS.step{w0 V W:BV}{ba br b5:Nat}{sh:List B7}{r u:B7}{M:List Pt}(h:KS w0 V ba br b5 sh r u M)(hb:B9 V.heap.size V W):KS w0 W ba br b5 sh r u M:=
 ⟨h.c1.step hb,h.c2.step hb,h.c3.step hb,Jq h.row hb,h.na,h.ns,h.n3,Jc h.below hb,h.l3,h.d1,h.d2,h.r0⟩
def Jgf:Obj:=BP #[J Y 1,J Y 0,J Y 0,J Y 0,J Y 1,J Y 0,J Y 0,J Y 0,J Y 1] 23
theorem Jmt(w:BV){base:Nat}(hb:base<=w.heap.size):(w.alloc Jgf).ownsRow base 23 3 (BQ (some ⟨w.heap.size,0,none⟩) 3 3) straightP.length (fl3 straightP):=
 World.ownsRow_lit (e:=23) (size:=3) w #[J Y 1,J Y 0,J Y 0,J Y 0,J Y 1,J Y 0,J Y 0,J Y 0,J Y 1] 3 hb (by unfold maxLen;omega) rfl
theorem KS.brick{w0 W:BV}{ba br b5:Nat}{sh:List B7}{r u va ve:B7}{M:List Pt}(h:KS w0 W ba br b5 sh r u M)(fM:w0.heap.size<=br)(ea:va = BQ (some ⟨W.heap.size,0,none⟩) 3 3)(ee:ve = BQ (some ⟨W.heap.size+1,0,none⟩) 3 3):
  Three w0 ((((W.setCell ⟨b5,1,none⟩ va).setCell ⟨b5,2,none⟩ ve).alloc Jgf).alloc Jgf) u va ve M straightP straightP/\Cells ((((W.setCell ⟨b5,1,none⟩ va).setCell ⟨b5,2,none⟩ ve).alloc Jgf).alloc Jgf) b5 [u,va,ve,r]/\Cells ((((W.setCell ⟨b5,1,none⟩ va).setCell ⟨b5,2,none⟩ ve).alloc Jgf).alloc Jgf) br [BQ none 0 0,BQ none 0 0,BQ none 0 0,J Y 0]/\va.ownBlock≠some br/\ve.ownBlock≠some br:=by
 have l5:b5<W.heap.size:=JB _ _ (h.c3 0 _ rfl).1;have lr:br<W.heap.size:=JB _ _ (h.c2 0 _ rfl).1;obtain⟨W1,oW⟩:∃ W1,W1=(W.setCell ⟨b5,1,none⟩ va).setCell ⟨b5,2,none⟩ ve:=⟨_,rfl⟩
 have sz:W1.heap.size=W.heap.size:=by rw[oW];simp[World.setCell]
 have hs:=h.below.size;have ac:B9 w0.heap.size w0 W1:=by rw[oW];exact(h.below.setCell h.l3 _).setCell h.l3 _
 have dD:W1.ownsRow w0.heap.size 23 3 u M.length (fl3 M):=by rw[oW];exact ownsRow_setCell_other (ownsRow_setCell_other h.row h.n3 _) h.n3 _
 have bV:Cells W1 b5 [u,va,ve,r]:=by rw[oW];exact(h.c3.set 1 va (by simp)).set 2 ve (by simp)
 have bF:Cells W1 br [BQ none 0 0,BQ none 0 0,BQ none 0 0,J Y 0]:=by rw[oW];exact(h.c2.put h.d2 _ _).put h.d2 _ _
 rw[<- oW];clear oW;have oa:va.ownBlock=some W.heap.size:=by rw[ea];rfl
 have oe:ve.ownBlock=some (W.heap.size+1):=by rw[ee];rfl
 have nar:va.ownBlock≠some br:=by rw[oa];intro e;cases e;omega
 have ner:ve.ownBlock≠some br:=by rw[oe];intro e;cases e;omega
 have n1:=Jb W1 Jgf;have n2:=Jb (W1.alloc Jgf) Jgf;have ra:(W1.alloc Jgf).ownsRow w0.heap.size 23 3 va straightP.length (fl3 straightP):=by
  have:=Jmt W1 (base:=w0.heap.size) (by omega);rw[sz]at this;rw[ea];exact this
 have re:((W1.alloc Jgf).alloc Jgf).ownsRow w0.heap.size 23 3 ve straightP.length (fl3 straightP):=by
  have:=Jmt (W1.alloc Jgf) (base:=w0.heap.size) (by simp;omega);rw[World.size_alloc,sz]at this;rw[ee];exact this
 refine⟨⟨Jq dD (Jc n1 n2),Jq ra n2,re,fun k e e'=>?_,fun k e e'=>?_,fun k e e'=>?_,Jc ac (Jc n1 n2)⟩,bV.step (Jc n1 n2),bF.step (Jc n1 n2),nar,ner⟩
 ·have a:=(h.row.lt k e).2;rw[oa]at e';cases e';omega
 ·have a:=(h.row.lt k e).2;rw[oe]at e';cases e';omega
 ·rw[oa]at e;rw[oe]at e';simp only[Option.some.injEq]at e e';omega
theorem Jbt(h:Pt)(i:Nat)(hi:i<8):(J4 h).take i ++ [pt (J4 h) i]=(J4 h).take (i+1):=(Jb6 (by simpa [J4] using hi)).symm
theorem Jp6(s:Sh)(pv:B7)(w0:BV)(hv:Lies w0 pv s.pts):
  Cd Tryz.prog 82 #[s.v pv] w0 fun e W=>∃ vp va ve,(J9 s≠0->e = BZ (.tuple #[B_ #[vp,va,ve,J Y 0],J Y (J9 s)])/\Three w0 W vp va ve [] [] [])/\(J9 s=0->e = BZ (.tuple #[B_ #[vp,va,ve,J Y s.radius],J Y 0])/\Three w0 W vp va ve (Jcn s) (Jo7 s) (Jkx s)):=by
 have hB:BU (B9 w0.heap.size w0 ((w0.alloc (BP #[J Y s.kind,J Y s.radius,J Y s.half.x,J Y s.half.y,J Y s.half.z,pv] 37)).alloc (BP #[BQ none 0 0,BQ none 0 0,BQ none 0 0,J Y 0] 127))):=Jc (Jb w0 _) (Jb _ _);have HF:BU _:=Jeo s pv ((w0.alloc (BP #[J Y s.kind,J Y s.radius,J Y s.half.x,J Y s.half.y,J Y s.half.z,pv] 37)).alloc (BP #[BQ none 0 0,BQ none 0 0,BQ none 0 0,J Y 0] 127)) (hv.below hB.out);have B1:BU (Cells ((w0.alloc (BP #[J Y s.kind,J Y s.radius,J Y s.half.x,J Y s.half.y,J Y s.half.z,pv] 37)).alloc (BP #[BQ none 0 0,BQ none 0 0,BQ none 0 0,J Y 0] 127)) w0.heap.size [J Y s.kind,J Y s.radius,J Y s.half.x,J Y s.half.y,J Y s.half.z,pv]):=(Cells.new w0 [J Y s.kind,J Y s.radius,J Y s.half.x,J Y s.half.y,J Y s.half.z,pv] _).step (Jb _ _);have B2:BU (Cells ((w0.alloc (BP #[J Y s.kind,J Y s.radius,J Y s.half.x,J Y s.half.y,J Y s.half.z,pv] 37)).alloc (BP #[BQ none 0 0,BQ none 0 0,BQ none 0 0,J Y 0] 127)) (w0.heap.size+1) [BQ none 0 0,BQ none 0 0,BQ none 0 0,J Y 0]):=by have:=Cells.new (w0.alloc (BP #[J Y s.kind,J Y s.radius,J Y s.half.x,J Y s.half.y,J Y s.half.z,pv] 37)) [BQ none 0 0,BQ none 0 0,BQ none 0 0,J Y 0] 127;rwa [World.size_alloc]at this
 have vt:BU (J9 s=0->Jbs s=true):=fun h=>by
  cases hf:Jbs s with
  | true=>rfl
  | false=>unfold J9 at h;rw[hf]at h;simp at h
 obtain⟨k,r,⟨hx,hy,hz⟩,L⟩:=s;have mS:BU (Jcn ⟨k,r,⟨hx,hy,hz⟩,L⟩=if k=1 then [Pt.O] else if k=2 then [⟨-hx,0,0⟩,⟨hx,0,0⟩] else if k=3 then J4 ⟨hx,hy,hz⟩ else L):=rfl;have mT:BU (Jo7 ⟨k,r,⟨hx,hy,hz⟩,L⟩=if k=3 then straightP else if k=4 then (Jep L).1 else []):=rfl;have kO:BU (Jkx ⟨k,r,⟨hx,hy,hz⟩,L⟩=if k=2 then [⟨1,0,0⟩] else if k=3 then straightP else if k=4 then (Jep L).2 else []):=rfl;have mU:BU (Jbs ⟨k,r,⟨hx,hy,hz⟩,L⟩=if k=1 then inR r 1 16384 else if k=2 then inR r 1 16384&&Jaa hx else if k=3 then inR r 0 16384&&(Jaa hx&&(Jaa hy&&Jaa hz)) else if k=4 then inR r 0 16384&&Jcw L else false):=rfl;generalize Jcn ⟨k,r,⟨hx,hy,hz⟩,L⟩=P at *;generalize Jo7 ⟨k,r,⟨hx,hy,hz⟩,L⟩=A at *;generalize Jkx ⟨k,r,⟨hx,hy,hz⟩,L⟩=E at *;generalize J9 ⟨k,r,⟨hx,hy,hz⟩,L⟩=C at *;generalize Jbs ⟨k,r,⟨hx,hy,hz⟩,L⟩=F at *;have HV:BU _:=hv;obtain⟨o,c,rfl,fE,fF,_⟩:=hv.form;clear hv;unfold Sh.v at *;dsimp only at *;obtain⟨i0,iw,dQ,dE,iA⟩:=info_parts Jes;have HI:BU _:=And.intro iw (And.intro dQ (And.intro dE iA));clear iw dQ dE iA;go_enter func82,ntmps82;go_wp2_with (fail);refine JA HF.out ?_;clear HF;rintro e V ⟨rfl,hb⟩;have D1:BU (Cells V w0.heap.size [J Y k,J Y r,J Y hx,J Y hy,J Y hz,BQ o L.length c]):=Cells.step B1.out hb;have D2:BU (Cells V (w0.heap.size+1) [BQ none 0 0,BQ none 0 0,BQ none 0 0,J Y 0]):=Cells.step B2.out hb;have hD:BU (B9 w0.heap.size w0 V):=Jc hB.out hb;clear B1 B2 hB;have cF:w0.heap.size+1<V.heap.size:=JB _ _ (D2.out 0 _ rfl).1;clear hb;obtain⟨ba,lG⟩:∃ b,b=w0.heap.size:=⟨_,rfl⟩
 obtain⟨br,fM⟩:∃ b,b=w0.heap.size+1:=⟨_,rfl⟩
 have iW:w0.heap.size<=br:=by omega
 have zt:br<V.heap.size:=by omega
 have zu:ba<V.heap.size:=by omega
 rw[<- fM]at D2 ⊢;rw[<- lG]at D1;rw[show w0.heap.size=ba from lG.symm];clear fM cF;have hbaw:BU _:=lG;have r0:=(D2.out 0 _ rfl).1;have r1:=(D2.out 1 _ rfl).1;have r2:=(D2.out 2 _ rfl).1;have r3:=(D2.out 3 _ rfl).1;have f0:=(D2.out 0 _ rfl).2;have f1:=(D2.out 1 _ rfl).2;have f2:=(D2.out 2 _ rfl).2;have f3:=(D2.out 3 _ rfl).2;clear lG;by_cases hC:C=0
 ·subst hC;have hF:=vt.out rfl;clear vt;subst hF;have s0:=(D1.out 0 _ rfl).1;have s1:=(D1.out 1 _ rfl).1;have s2:=(D1.out 2 _ rfl).1;have s3:=(D1.out 3 _ rfl).1;have s4:=(D1.out 4 _ rfl).1;have s5:=(D1.out 5 _ rfl).1;by_cases k1:k=1
  ·subst k1;have eP:P = [Pt.O]:=mS.out;have eA:A = []:=mT.out;have eE:E = []:=kO.out;clear mS mT kO mU;subst eP eA eE;clear r0 r1 r2 r3 f0 f1 f2 f3;go_upto_region 22 with fail;obtain⟨X,hX⟩:∃ X:BV,X=(V.alloc (BP #[BQ (some ⟨V.heap.size+1,0,none⟩) 1 1,BQ none 0 0,BQ none 0 0,J Y r] 127)).alloc (BP #[J Y 0,J Y 0,J Y 0] 23):=⟨_,rfl⟩
   have hb:B9 V.heap.size V X:=by rw[hX];exact Jc (Jb _ _) (Jb _ _)
   have BC:Cells X V.heap.size [BQ (some ⟨V.heap.size+1,0,none⟩) 1 1,BQ none 0 0,BQ none 0 0,J Y r]:=by rw[hX];exact Cells.step (Cells.new V [BQ (some ⟨V.heap.size+1,0,none⟩) 1 1,BQ none 0 0,BQ none 0 0,J Y r] _) (Jb _ _)
   have H3:BU (Three w0 X (BQ (some ⟨V.heap.size+1,0,none⟩) 1 1) (BQ none 0 0) (BQ none 0 0) [Pt.O] [] []):=by rw[hX];exact Jop (Jc hD.out (Jb V _)) _ (by simp)
   have D2:=Cells.step D2.out hb;have n1:Value.ownBlock (BQ (some ⟨V.heap.size+1,0,none⟩) 1 1)≠some br:=by simp[Value.ownBlock];omega
   have n2:Value.ownBlock (BQ none 0 0)≠some br:=by simp[Value.ownBlock]
   have n3:=n2;rw[<- hX];clear hX hb s0 s1 s2 s3 s4 s5 D1;have t0:=(BC 0 _ rfl).1;have t1:=(BC 1 _ rfl).1;have t2:=(BC 2 _ rfl).1;have t3:=(BC 3 _ rfl).1;have r0:=(D2 0 _ rfl).1;have r1:=(D2 1 _ rfl).1;have r2:=(D2 2 _ rfl).1;have r3:=(D2 3 _ rfl).1;have f0:=(D2 0 _ rfl).2;have f1:=(D2 1 _ rfl).2;have f2:=(D2 2 _ rfl).2;have f3:=(D2 3 _ rfl).2;clear BC D2;go_wp2_with (fail);refine bodyPost_ret (v:=.tuple #[B_ #[BQ (some ⟨V.heap.size+1,0,none⟩) 1 1,BQ none 0 0,BQ none 0 0,J Y r],J Y 0]) (by simp[results,results82,go_sem,r0,r1,r2,r3]) rfl ⟨_,_,_,rfl,?_⟩;exact H3.out.set iW n1 n2 n3 _ _ _ _
  by_cases k2:k=2
  ·subst k2;have eP:P = [⟨-hx,0,0⟩,⟨hx,0,0⟩]:=mS.out;have eA:A = []:=mT.out;have eE:E = [⟨1,0,0⟩]:=kO.out;have hhx:1<=hx/\hx<=65536:=by
    have:=mU.out;simp[Jaa]at this;exact this.2
   clear mS mT kO mU;subst eP eA eE;clear r0 r1 r2 r3 f0 f1 f2 f3;go_upto_region 22 with fail;obtain⟨X,hX⟩:∃ X:BV,X=((V.alloc (BP #[BQ (some ⟨V.heap.size+1,0,none⟩) 2 2,BQ none 0 0,BQ (some ⟨V.heap.size+1+1,0,none⟩) 1 1,J Y r] 127)).alloc (BP #[J Y (-hx),J Y 0,J Y 0,J Y hx,J Y 0,J Y 0] 23)).alloc (BP #[J Y 1,J Y 0,J Y 0] 23):=⟨_,rfl⟩
   have hb:B9 V.heap.size V X:=by rw[hX];exact Jc (Jc (Jb _ _) (Jb _ _)) (Jb _ _)
   have BC:Cells X V.heap.size [BQ (some ⟨V.heap.size+1,0,none⟩) 2 2,BQ none 0 0,BQ (some ⟨V.heap.size+1+1,0,none⟩) 1 1,J Y r]:=by rw[hX];exact Cells.step (Cells.new V [BQ (some ⟨V.heap.size+1,0,none⟩) 2 2,BQ none 0 0,BQ (some ⟨V.heap.size+1+1,0,none⟩) 1 1,J Y r] _) (Jc (Jb _ _) (Jb _ _))
   have H3:BU (Three w0 X (BQ (some ⟨V.heap.size+1,0,none⟩) 2 2) (BQ none 0 0) (BQ (some ⟨V.heap.size+1+1,0,none⟩) 1 1) [⟨-hx,0,0⟩,⟨hx,0,0⟩] [] [⟨1,0,0⟩]):=by rw[hX];exact Jje (Jc hD.out (Jb V _)) hx _ _ (by simp) (by simp)
   have D2:=Cells.step D2.out hb;have n1:Value.ownBlock (BQ (some ⟨V.heap.size+1,0,none⟩) 2 2)≠some br:=by simp[Value.ownBlock];omega
   have n2:Value.ownBlock (BQ none 0 0)≠some br:=by simp[Value.ownBlock]
   have n3:Value.ownBlock (BQ (some ⟨V.heap.size+1+1,0,none⟩) 1 1)≠some br:=by simp[Value.ownBlock];omega
   rw[<- hX];clear hX hb s0 s1 s2 s3 s4 s5 D1;have t0:=(BC 0 _ rfl).1;have t1:=(BC 1 _ rfl).1;have t2:=(BC 2 _ rfl).1;have t3:=(BC 3 _ rfl).1;have r0:=(D2 0 _ rfl).1;have r1:=(D2 1 _ rfl).1;have r2:=(D2 2 _ rfl).1;have r3:=(D2 3 _ rfl).1;have f0:=(D2 0 _ rfl).2;have f1:=(D2 1 _ rfl).2;have f2:=(D2 2 _ rfl).2;have f3:=(D2 3 _ rfl).2;clear BC D2;go_wp2_with (fail);refine bodyPost_ret (v:=.tuple #[B_ #[BQ (some ⟨V.heap.size+1,0,none⟩) 2 2,BQ none 0 0,BQ (some ⟨V.heap.size+1+1,0,none⟩) 1 1,J Y r],J Y 0]) (by simp[results,results82,go_sem,r0,r1,r2,r3]) rfl ⟨_,_,_,rfl,?_⟩;exact H3.out.set iW n1 n2 n3 _ _ _ _
  by_cases k3:k=3
  ·subst k3;have eP:P=J4 ⟨hx,hy,hz⟩:=mS.out;have eA:A=straightP:=mT.out;have eE:E=straightP:=kO.out;have hh:(1<=hx/\hx<=65536)/\(1<=hy/\hy<=65536)/\(1<=hz/\hz<=65536):=by
    have:=mU.out;simp[Jaa]at this;exact this.2
   clear mS mT kO mU;subst eP eA eE;clear r0 r1 r2 r3 f0 f1 f2 f3;go_upto_region 16 with fail;obtain⟨X,hX⟩:∃ X:BV,X=V.alloc (BP #[BQ none 0 0,BQ none 0 0,BQ none 0 0,J Y r] 127):=⟨_,rfl⟩
   obtain⟨b5,cB⟩:∃ b,b=V.heap.size:=⟨_,rfl⟩
   have me:B9 V.heap.size V X:=by rw[hX];exact Jb _ _
   have i7:BU (KS w0 X ba br b5 [J Y 3,J Y r,J Y hx,J Y hy,J Y hz,BQ o L.length c] (J Y r) (BQ none 0 0) []):=⟨Cells.step D1.out me,Cells.step D2.out me,by rw[hX,cB];exact Cells.new V [BQ none 0 0,BQ none 0 0,BQ none 0 0,J Y r] _,World.ownsRow_nil _ _ _ _,(fun e=>by cases e),(fun e=>by cases e),(fun e=>by cases e),Jc hD.out me,by have:=hD.out.size;omega,by omega,by omega,⟨_,rfl⟩⟩
   rw[<- hX,<- cB];clear hX cB me s0 s1 s2 s3 s4 s5 D1 D2 zt zu;have w1:IntKind.i64.wrap (-hx) = -hx:=by rw[IntKind.wrap_i64];omega
   have w2:IntKind.i64.wrap (-hy) = -hy:=by rw[IntKind.wrap_i64];omega
   have w3:IntKind.i64.wrap (-hz) = -hz:=by rw[IntKind.wrap_i64];omega
   have w4:IntKind.i64.wrap hx=hx:=by rw[IntKind.wrap_i64];omega
   have w5:IntKind.i64.wrap hy=hy:=by rw[IntKind.wrap_i64];omega
   have w6:IntKind.i64.wrap hz=hz:=by rw[IntKind.wrap_i64];omega
   clear hh;go_wp2_with (fail)
   go_loopg [6] 8 (fun gm s wr=>∃(i:Nat) (u:B7),s=J Y (i:Int)/\i<=8/\gm=8-i/\BU (KS w0 wr ba br b5 [J Y 3,J Y r,J Y hx,J Y hy,J Y hz,BQ o L.length c] (J Y r) u ((J4 ⟨hx,hy,hz⟩).take i)))
   case atStart=>exact⟨0,_,rfl,by omega,rfl,i7.out⟩
   case round =>
    clear i7;obtain⟨i,u,rfl,hi,be,KQ⟩:=hrel;have eH:BU _:=be;clear be;by_cases hit:i<8
    ·have s2:=(KQ.out.c1 2 _ rfl).1;have s3:=(KQ.out.c1 3 _ rfl).1;have s4:=(KQ.out.c1 4 _ rfl).1;have t0:=(KQ.out.c3 0 _ rfl).1;have g0:=(KQ.out.c3 0 _ rfl).2;obtain⟨ou,lu,cu,rfl⟩:=Ja7 KQ.out.row;rcases(show i=0\/i=1\/i=2\/i=3\/i=4\/i=5\/i=6\/i=7 by omega) with rfl | rfl | rfl | rfl | rfl | rfl | rfl | rfl
     ·go_wp2_with (at_builtin;refine wpList_append_own_at _ rfl _ _ 24 rfl w0.heap.size 23 i0 _ 3 24 underlying24 HI.out.1 HI.out.2.1 HI.out.2.2.1 HI.out.2.2.2 rfl (by decide) _ _ _ rfl (Jq KQ.out.row (Jb wr _)) ⟨wr.heap.size,0,none⟩ 1 1 [J Y (-hx),J Y (-hy),J Y (-hz)] rfl rfl (Jcj (heap_alloc_new wr _)) (by intro u hu;simp at hu;rcases hu with rfl | rfl | rfl <;> rfl) (by unfold maxLen;simp[J4]) (by simp[J4]) (by simp;have:=KQ.out.below.size;omega) ?_;intro u9 V2 r8 g8 _ s8;obtain⟨o9,l9,c9,rfl⟩:=Ja7 r8;have t9:=(Cells.grown (Cells.step KQ.out.c3 (Jb wr (BP #[J Y (-hx),J Y (-hy),J Y (-hz)] 23))) g8 KQ.out.n3) 0 _ rfl;have t0:=t9.1;have g0:=t9.2;clear t9);have KX:BU (KS w0 (V2.setCell ⟨b5,0,none⟩ (BQ o9 l9 c9)) ba br b5 [J Y 3,J Y r,J Y hx,J Y hy,J Y hz,BQ o L.length c] (J Y r) (BQ o9 l9 c9) ((J4 ⟨hx,hy,hz⟩).take 1)):=(KQ.out.step (Jb wr (BP #[J Y (-hx),J Y (-hy),J Y (-hz)] 23))).app (by rw[<- Jbt ⟨hx,hy,hz⟩ 0 (by decide),Ja6,List.length_append];exact r8) ⟨g8,by rcases s8 with e | e;exact Or.inl e;exact Or.inr ⟨_,e,Nat.le_refl _⟩⟩
      go_roundg (8-1)
      case measure=>have:=eH.out;omega
      case rel=>exact⟨1,_,rfl,by omega,rfl,KX⟩
     ·go_wp2_with (at_builtin;refine wpList_append_own_at _ rfl _ _ 24 rfl w0.heap.size 23 i0 _ 3 24 underlying24 HI.out.1 HI.out.2.1 HI.out.2.2.1 HI.out.2.2.2 rfl (by decide) _ _ _ rfl (Jq KQ.out.row (Jb wr _)) ⟨wr.heap.size,0,none⟩ 1 1 [J Y (-hx),J Y (-hy),J Y hz] rfl rfl (Jcj (heap_alloc_new wr _)) (by intro u hu;simp at hu;rcases hu with rfl | rfl | rfl <;> rfl) (by unfold maxLen;simp[J4]) (by simp[J4]) (by simp;have:=KQ.out.below.size;omega) ?_;intro u9 V2 r8 g8 _ s8;obtain⟨o9,l9,c9,rfl⟩:=Ja7 r8;have t9:=(Cells.grown (Cells.step KQ.out.c3 (Jb wr (BP #[J Y (-hx),J Y (-hy),J Y hz] 23))) g8 KQ.out.n3) 0 _ rfl;have t0:=t9.1;have g0:=t9.2;clear t9);have KX:BU (KS w0 (V2.setCell ⟨b5,0,none⟩ (BQ o9 l9 c9)) ba br b5 [J Y 3,J Y r,J Y hx,J Y hy,J Y hz,BQ o L.length c] (J Y r) (BQ o9 l9 c9) ((J4 ⟨hx,hy,hz⟩).take 2)):=(KQ.out.step (Jb wr (BP #[J Y (-hx),J Y (-hy),J Y hz] 23))).app (by rw[<- Jbt ⟨hx,hy,hz⟩ 1 (by decide),Ja6,List.length_append];exact r8) ⟨g8,by rcases s8 with e | e;exact Or.inl e;exact Or.inr ⟨_,e,Nat.le_refl _⟩⟩
      go_roundg (8-2)
      case measure=>have:=eH.out;omega
      case rel=>exact⟨2,_,rfl,by omega,rfl,KX⟩
     ·go_wp2_with (at_builtin;refine wpList_append_own_at _ rfl _ _ 24 rfl w0.heap.size 23 i0 _ 3 24 underlying24 HI.out.1 HI.out.2.1 HI.out.2.2.1 HI.out.2.2.2 rfl (by decide) _ _ _ rfl (Jq KQ.out.row (Jb wr _)) ⟨wr.heap.size,0,none⟩ 1 1 [J Y (-hx),J Y hy,J Y (-hz)] rfl rfl (Jcj (heap_alloc_new wr _)) (by intro u hu;simp at hu;rcases hu with rfl | rfl | rfl <;> rfl) (by unfold maxLen;simp[J4]) (by simp[J4]) (by simp;have:=KQ.out.below.size;omega) ?_;intro u9 V2 r8 g8 _ s8;obtain⟨o9,l9,c9,rfl⟩:=Ja7 r8;have t9:=(Cells.grown (Cells.step KQ.out.c3 (Jb wr (BP #[J Y (-hx),J Y hy,J Y (-hz)] 23))) g8 KQ.out.n3) 0 _ rfl;have t0:=t9.1;have g0:=t9.2;clear t9);have KX:BU (KS w0 (V2.setCell ⟨b5,0,none⟩ (BQ o9 l9 c9)) ba br b5 [J Y 3,J Y r,J Y hx,J Y hy,J Y hz,BQ o L.length c] (J Y r) (BQ o9 l9 c9) ((J4 ⟨hx,hy,hz⟩).take 3)):=(KQ.out.step (Jb wr (BP #[J Y (-hx),J Y hy,J Y (-hz)] 23))).app (by rw[<- Jbt ⟨hx,hy,hz⟩ 2 (by decide),Ja6,List.length_append];exact r8) ⟨g8,by rcases s8 with e | e;exact Or.inl e;exact Or.inr ⟨_,e,Nat.le_refl _⟩⟩
      go_roundg (8-3)
      case measure=>have:=eH.out;omega
      case rel=>exact⟨3,_,rfl,by omega,rfl,KX⟩
     ·go_wp2_with (at_builtin;refine wpList_append_own_at _ rfl _ _ 24 rfl w0.heap.size 23 i0 _ 3 24 underlying24 HI.out.1 HI.out.2.1 HI.out.2.2.1 HI.out.2.2.2 rfl (by decide) _ _ _ rfl (Jq KQ.out.row (Jb wr _)) ⟨wr.heap.size,0,none⟩ 1 1 [J Y (-hx),J Y hy,J Y hz] rfl rfl (Jcj (heap_alloc_new wr _)) (by intro u hu;simp at hu;rcases hu with rfl | rfl | rfl <;> rfl) (by unfold maxLen;simp[J4]) (by simp[J4]) (by simp;have:=KQ.out.below.size;omega) ?_;intro u9 V2 r8 g8 _ s8;obtain⟨o9,l9,c9,rfl⟩:=Ja7 r8;have t9:=(Cells.grown (Cells.step KQ.out.c3 (Jb wr (BP #[J Y (-hx),J Y hy,J Y hz] 23))) g8 KQ.out.n3) 0 _ rfl;have t0:=t9.1;have g0:=t9.2;clear t9);have KX:BU (KS w0 (V2.setCell ⟨b5,0,none⟩ (BQ o9 l9 c9)) ba br b5 [J Y 3,J Y r,J Y hx,J Y hy,J Y hz,BQ o L.length c] (J Y r) (BQ o9 l9 c9) ((J4 ⟨hx,hy,hz⟩).take 4)):=(KQ.out.step (Jb wr (BP #[J Y (-hx),J Y hy,J Y hz] 23))).app (by rw[<- Jbt ⟨hx,hy,hz⟩ 3 (by decide),Ja6,List.length_append];exact r8) ⟨g8,by rcases s8 with e | e;exact Or.inl e;exact Or.inr ⟨_,e,Nat.le_refl _⟩⟩
      go_roundg (8-4)
      case measure=>have:=eH.out;omega
      case rel=>exact⟨4,_,rfl,by omega,rfl,KX⟩
     ·go_wp2_with (at_builtin;refine wpList_append_own_at _ rfl _ _ 24 rfl w0.heap.size 23 i0 _ 3 24 underlying24 HI.out.1 HI.out.2.1 HI.out.2.2.1 HI.out.2.2.2 rfl (by decide) _ _ _ rfl (Jq KQ.out.row (Jb wr _)) ⟨wr.heap.size,0,none⟩ 1 1 [J Y hx,J Y (-hy),J Y (-hz)] rfl rfl (Jcj (heap_alloc_new wr _)) (by intro u hu;simp at hu;rcases hu with rfl | rfl | rfl <;> rfl) (by unfold maxLen;simp[J4]) (by simp[J4]) (by simp;have:=KQ.out.below.size;omega) ?_;intro u9 V2 r8 g8 _ s8;obtain⟨o9,l9,c9,rfl⟩:=Ja7 r8;have t9:=(Cells.grown (Cells.step KQ.out.c3 (Jb wr (BP #[J Y hx,J Y (-hy),J Y (-hz)] 23))) g8 KQ.out.n3) 0 _ rfl;have t0:=t9.1;have g0:=t9.2;clear t9);have KX:BU (KS w0 (V2.setCell ⟨b5,0,none⟩ (BQ o9 l9 c9)) ba br b5 [J Y 3,J Y r,J Y hx,J Y hy,J Y hz,BQ o L.length c] (J Y r) (BQ o9 l9 c9) ((J4 ⟨hx,hy,hz⟩).take 5)):=(KQ.out.step (Jb wr (BP #[J Y hx,J Y (-hy),J Y (-hz)] 23))).app (by rw[<- Jbt ⟨hx,hy,hz⟩ 4 (by decide),Ja6,List.length_append];exact r8) ⟨g8,by rcases s8 with e | e;exact Or.inl e;exact Or.inr ⟨_,e,Nat.le_refl _⟩⟩
      go_roundg (8-5)
      case measure=>have:=eH.out;omega
      case rel=>exact⟨5,_,rfl,by omega,rfl,KX⟩
     ·go_wp2_with (at_builtin;refine wpList_append_own_at _ rfl _ _ 24 rfl w0.heap.size 23 i0 _ 3 24 underlying24 HI.out.1 HI.out.2.1 HI.out.2.2.1 HI.out.2.2.2 rfl (by decide) _ _ _ rfl (Jq KQ.out.row (Jb wr _)) ⟨wr.heap.size,0,none⟩ 1 1 [J Y hx,J Y (-hy),J Y hz] rfl rfl (Jcj (heap_alloc_new wr _)) (by intro u hu;simp at hu;rcases hu with rfl | rfl | rfl <;> rfl) (by unfold maxLen;simp[J4]) (by simp[J4]) (by simp;have:=KQ.out.below.size;omega) ?_;intro u9 V2 r8 g8 _ s8;obtain⟨o9,l9,c9,rfl⟩:=Ja7 r8;have t9:=(Cells.grown (Cells.step KQ.out.c3 (Jb wr (BP #[J Y hx,J Y (-hy),J Y hz] 23))) g8 KQ.out.n3) 0 _ rfl;have t0:=t9.1;have g0:=t9.2;clear t9);have KX:BU (KS w0 (V2.setCell ⟨b5,0,none⟩ (BQ o9 l9 c9)) ba br b5 [J Y 3,J Y r,J Y hx,J Y hy,J Y hz,BQ o L.length c] (J Y r) (BQ o9 l9 c9) ((J4 ⟨hx,hy,hz⟩).take 6)):=(KQ.out.step (Jb wr (BP #[J Y hx,J Y (-hy),J Y hz] 23))).app (by rw[<- Jbt ⟨hx,hy,hz⟩ 5 (by decide),Ja6,List.length_append];exact r8) ⟨g8,by rcases s8 with e | e;exact Or.inl e;exact Or.inr ⟨_,e,Nat.le_refl _⟩⟩
      go_roundg (8-6)
      case measure=>have:=eH.out;omega
      case rel=>exact⟨6,_,rfl,by omega,rfl,KX⟩
     ·go_wp2_with (at_builtin;refine wpList_append_own_at _ rfl _ _ 24 rfl w0.heap.size 23 i0 _ 3 24 underlying24 HI.out.1 HI.out.2.1 HI.out.2.2.1 HI.out.2.2.2 rfl (by decide) _ _ _ rfl (Jq KQ.out.row (Jb wr _)) ⟨wr.heap.size,0,none⟩ 1 1 [J Y hx,J Y hy,J Y (-hz)] rfl rfl (Jcj (heap_alloc_new wr _)) (by intro u hu;simp at hu;rcases hu with rfl | rfl | rfl <;> rfl) (by unfold maxLen;simp[J4]) (by simp[J4]) (by simp;have:=KQ.out.below.size;omega) ?_;intro u9 V2 r8 g8 _ s8;obtain⟨o9,l9,c9,rfl⟩:=Ja7 r8;have t9:=(Cells.grown (Cells.step KQ.out.c3 (Jb wr (BP #[J Y hx,J Y hy,J Y (-hz)] 23))) g8 KQ.out.n3) 0 _ rfl;have t0:=t9.1;have g0:=t9.2;clear t9);have KX:BU (KS w0 (V2.setCell ⟨b5,0,none⟩ (BQ o9 l9 c9)) ba br b5 [J Y 3,J Y r,J Y hx,J Y hy,J Y hz,BQ o L.length c] (J Y r) (BQ o9 l9 c9) ((J4 ⟨hx,hy,hz⟩).take 7)):=(KQ.out.step (Jb wr (BP #[J Y hx,J Y hy,J Y (-hz)] 23))).app (by rw[<- Jbt ⟨hx,hy,hz⟩ 6 (by decide),Ja6,List.length_append];exact r8) ⟨g8,by rcases s8 with e | e;exact Or.inl e;exact Or.inr ⟨_,e,Nat.le_refl _⟩⟩
      go_roundg (8-7)
      case measure=>have:=eH.out;omega
      case rel=>exact⟨7,_,rfl,by omega,rfl,KX⟩
     ·go_wp2_with (at_builtin;refine wpList_append_own_at _ rfl _ _ 24 rfl w0.heap.size 23 i0 _ 3 24 underlying24 HI.out.1 HI.out.2.1 HI.out.2.2.1 HI.out.2.2.2 rfl (by decide) _ _ _ rfl (Jq KQ.out.row (Jb wr _)) ⟨wr.heap.size,0,none⟩ 1 1 [J Y hx,J Y hy,J Y hz] rfl rfl (Jcj (heap_alloc_new wr _)) (by intro u hu;simp at hu;rcases hu with rfl | rfl | rfl <;> rfl) (by unfold maxLen;simp[J4]) (by simp[J4]) (by simp;have:=KQ.out.below.size;omega) ?_;intro u9 V2 r8 g8 _ s8;obtain⟨o9,l9,c9,rfl⟩:=Ja7 r8;have t9:=(Cells.grown (Cells.step KQ.out.c3 (Jb wr (BP #[J Y hx,J Y hy,J Y hz] 23))) g8 KQ.out.n3) 0 _ rfl;have t0:=t9.1;have g0:=t9.2;clear t9);have KX:BU (KS w0 (V2.setCell ⟨b5,0,none⟩ (BQ o9 l9 c9)) ba br b5 [J Y 3,J Y r,J Y hx,J Y hy,J Y hz,BQ o L.length c] (J Y r) (BQ o9 l9 c9) ((J4 ⟨hx,hy,hz⟩).take 8)):=(KQ.out.step (Jb wr (BP #[J Y hx,J Y hy,J Y hz] 23))).app (by rw[<- Jbt ⟨hx,hy,hz⟩ 7 (by decide),Ja6,List.length_append];exact r8) ⟨g8,by rcases s8 with e | e;exact Or.inl e;exact Or.inr ⟨_,e,Nat.le_refl _⟩⟩
      go_roundg (8-8)
      case measure=>have:=eH.out;omega
      case rel=>exact⟨8,_,rfl,by omega,rfl,KX⟩
    ·have e:i=8:=by omega
     subst e;obtain⟨ou,lu,cu,rfl⟩:=Ja7 KQ.out.row;have t1:=(KQ.out.c3 1 _ rfl).1;have t2:=(KQ.out.c3 2 _ rfl).1;have g1:=(KQ.out.c3 1 _ rfl).2;have g2:=(KQ.out.c3 2 _ rfl).2;have hl5:b5<wr.heap.size:=JB _ _ t1;have vu:¬ wr.heap.size=b5:=by omega
     obtain⟨H3',BC',D2',n2,n3⟩:=KQ.out.brick iW (va:=BQ (some ⟨wr.heap.size,0,none⟩) 3 3) (ve:=BQ (some ⟨wr.heap.size+1,0,none⟩) 3 3) rfl rfl;have n1:=KQ.out.ns;rw[List.take_of_length_le (by simp[J4])]at H3';have H3:BU _:=H3';have BC:BU _:=BC';have D2:BU _:=D2';unfold Jgf at H3 BC D2;clear H3' BC' D2';go_upto_region 22 with fail;generalize(((wr.setCell ⟨b5,1,none⟩ (BQ (some ⟨wr.heap.size,0,none⟩) 3 3)).setCell ⟨b5,2,none⟩ (BQ (some ⟨wr.heap.size+1,0,none⟩) 3 3)).alloc (BP #[J Y 1,J Y 0,J Y 0,J Y 0,J Y 1,J Y 0,J Y 0,J Y 0,J Y 1] 23)).alloc (BP #[J Y 1,J Y 0,J Y 0,J Y 0,J Y 1,J Y 0,J Y 0,J Y 0,J Y 1] 23)=X9 at *;clear t1 t2 g1 g2 hl5 vu;have BC:=BC.out;have D2:=D2.out;have t0:=(BC 0 _ rfl).1;have t1:=(BC 1 _ rfl).1;have t2:=(BC 2 _ rfl).1;have t3:=(BC 3 _ rfl).1;have r0:=(D2 0 _ rfl).1;have r1:=(D2 1 _ rfl).1;have r2:=(D2 2 _ rfl).1;have r3:=(D2 3 _ rfl).1;have f0:=(D2 0 _ rfl).2;have f1:=(D2 1 _ rfl).2;have f2:=(D2 2 _ rfl).2;have f3:=(D2 3 _ rfl).2;clear BC D2;go_wp2_with (fail);refine bodyPost_ret (v:=.tuple #[B_ #[BQ ou lu cu,BQ (some ⟨wr.heap.size,0,none⟩) 3 3,BQ (some ⟨wr.heap.size+1,0,none⟩) 3 3,J Y r],J Y 0]) (by simp[results,results82,go_sem,r0,r1,r2,r3]) rfl ⟨_,_,_,rfl,?_⟩;exact H3.out.set iW n1 n2 n3 _ _ _ _
  by_cases k4:k=4
  ·subst k4;have eP:P=L:=mS.out;have eA:A=(Jep L).1:=mT.out;have eE:E=(Jep L).2:=kO.out;have hm:Jcw L=true:=by
    have:=mU.out;simp at this;exact this.2
   obtain⟨m1,m2,m3,m4⟩:=Jft hm;have M3:BU _:=m3;clear mS mT kO mU hm m3 m4;subst eP;have EA:BU _:=eA;have EE:BU _:=eE;clear eA eE r0 r1 r2 r3 f0 f1 f2 f3;go_upto_region 6 with fail;obtain⟨X,hX⟩:∃ X:BV,X=V.alloc (BP #[BQ none 0 0,BQ none 0 0,BQ none 0 0,J Y r] 127):=⟨_,rfl⟩
   obtain⟨b5,cB⟩:∃ b,b=V.heap.size:=⟨_,rfl⟩
   have me:B9 V.heap.size V X:=by rw[hX];exact Jb _ _
   have i7:BU (KS w0 X ba br b5 [J Y 4,J Y r,J Y hx,J Y hy,J Y hz,BQ o P.length c] (J Y r) (BQ none 0 0) []):=⟨Cells.step D1.out me,Cells.step D2.out me,by rw[hX,cB];exact Cells.new V [BQ none 0 0,BQ none 0 0,BQ none 0 0,J Y r] _,World.ownsRow_nil _ _ _ _,(fun e=>by cases e),(fun e=>by cases e),(fun e=>by cases e),Jc hD.out me,by have:=hD.out.size;omega,by omega,by omega,⟨_,rfl⟩⟩
   rw[<- hX,<- cB];clear hX cB me s0 s1 s2 s3 s4 s5 D1 D2 zt zu;have s5:=(i7.out.c1 5 _ rfl).1;have t0:=(i7.out.c3 0 _ rfl).1;have g0:=(i7.out.c3 0 _ rfl).2;have rC:BU _:=HV.out.below i7.out.below;obtain⟨_,_,ev,_,_,AQ⟩:=HV.out.form;cases ev;obtain⟨g,off,e9,_⟩:=AQ 0 (by omega);subst e9;clear AQ;have RD:BU _:=Lies.read rC.out 0 P ⟨[],by simp⟩;rw[Nat.zero_mul,Nat.add_zero]at RD;go_upto_region 7 with (at_builtin;refine wpList_append_own_at _ rfl _ _ 24 rfl w0.heap.size 23 i0 _ 3 24 underlying24 HI.out.1 HI.out.2.1 HI.out.2.2.1 HI.out.2.2.2 rfl (by decide) _ 0 [] rfl (World.ownsRow_nil _ _ _ _) ⟨g,off,none⟩ P.length c (fl3 P) rfl (by rw[Jev]) RD.out (Jpe _) (by unfold maxLen;omega) (by omega) i7.out.below.size ?_;intro u9 V2 r8 g8 _ s8;obtain⟨o9,l9,c9,rfl⟩:=Ja7 r8;have t9:=(Cells.grown i7.out.c3 g8 i7.out.n3) 0 _ rfl;have t0:=t9.1;have g0:=t9.2;clear t9);have r8':V2.ownsRow w0.heap.size 23 3 (BQ o9 l9 c9) P.length (fl3 P):=by simpa using r8
   have KX:BU (KS w0 (V2.setCell ⟨b5,0,none⟩ (BQ o9 l9 c9)) ba br b5 [J Y 4,J Y r,J Y hx,J Y hy,J Y hz,BQ (some ⟨g,off,none⟩) P.length c] (J Y r) (BQ o9 l9 c9) P):=i7.out.app r8' ⟨g8,by rcases s8 with e | e;exact Or.inl e;exact Or.inr ⟨_,e,Nat.le_refl _⟩⟩;clear r8 r8' g8 s8 t0 g0 s5 RD rC i7;generalize V2.setCell ⟨b5,0,none⟩ (BQ o9 l9 c9)=X4 at *;have s5:=(KX.out.c1 5 _ rfl).1;have rC:BU _:=HV.out.below KX.out.below;go_wp2_with (fail);refine JA (Jpu _ P X4 rC.out (by omega) m2 M3.out) ?_;rintro e X5 ⟨va,ve,rfl,ht⟩;rw[<- EA.out,<- EE.out]at ht;obtain⟨o2,c2,rfl,_⟩:=(Lies.of_row ht.ra).form;obtain⟨o3,c3,rfl,_⟩:=(Lies.of_row ht.re).form;have cB:=ht.below;have l5:b5<X4.heap.size:=JB _ _ (KX.out.c3 0 _ rfl).1;have lr:br<X4.heap.size:=JB _ _ (KX.out.c2 0 _ rfl).1;have qI:=KX.out.below.size;have H3':Three w0 X5 (BQ o9 l9 c9) (BQ o2 A.length c2) (BQ o3 E.length c3) P A E:=⟨Jq KX.out.row cB,Jsd ht.ra qI,Jsd ht.re qI,fun k e e'=>by have a:=(KX.out.row.lt k e).2;have b:=(ht.ra.lt k e').1;omega,fun k e e'=>by have a:=(KX.out.row.lt k e).2;have b:=(ht.re.lt k e').1;omega,fun k e e'=>ht.apart k e' e,Jc KX.out.below cB⟩
   have q1:=KX.out.n3;have q2:(Value.slice o2 A.length c2).ownBlock≠some b5:=fun e=>by have:=(ht.ra.lt _ e).1;omega
   have q3:(Value.slice o3 E.length c3).ownBlock≠some b5:=fun e=>by have:=(ht.re.lt _ e).1;omega
   have n1:=KX.out.ns;have n2:(Value.slice o2 A.length c2).ownBlock≠some br:=fun e=>by have:=(ht.ra.lt _ e).1;omega
   have n3:(Value.slice o3 E.length c3).ownBlock≠some br:=fun e=>by have:=(ht.re.lt _ e).1;omega
   have BC':=((KX.out.c3.step cB).set 1 (BQ o2 A.length c2) (by simp)).set 2 (BQ o3 E.length c3) (by simp);have D2':=((KX.out.c2.step cB).put KX.out.d2 1 (BQ o2 A.length c2)).put KX.out.d2 2 (BQ o3 E.length c3);have H3:BU _:=(H3'.put KX.out.l3 q1 q2 q3 1 (BQ o2 A.length c2)).put KX.out.l3 q1 q2 q3 2 (BQ o3 E.length c3);have t1:=(KX.out.c3.step cB 1 _ rfl).1;have t2:=(KX.out.c3.step cB 2 _ rfl).1;have g1:=(KX.out.c3.step cB 1 _ rfl).2;have g2:=(KX.out.c3.step cB 2 _ rfl).2;clear ht cB s5 H3' rC;go_upto_region 22 with fail;generalize(X5.setCell ⟨b5,1,none⟩ (BQ o2 A.length c2)).setCell ⟨b5,2,none⟩ (BQ o3 E.length c3)=X6 at *;clear t1 t2 g1 g2;have BC:=BC';have D2:=D2';clear BC' D2';have t0:=(BC 0 _ rfl).1;have t1:=(BC 1 _ rfl).1;have t2:=(BC 2 _ rfl).1;have t3:=(BC 3 _ rfl).1;have r0:=(D2 0 _ rfl).1;have r1:=(D2 1 _ rfl).1;have r2:=(D2 2 _ rfl).1;have r3:=(D2 3 _ rfl).1;have f0:=(D2 0 _ rfl).2;have f1:=(D2 1 _ rfl).2;have f2:=(D2 2 _ rfl).2;have f3:=(D2 3 _ rfl).2;clear BC D2;go_wp2_with (fail);refine bodyPost_ret (v:=.tuple #[B_ #[BQ o9 l9 c9,BQ o2 A.length c2,BQ o3 E.length c3,J Y r],J Y 0]) (by simp[results,results82,go_sem,r0,r1,r2,r3]) rfl ⟨_,_,_,rfl,?_⟩;exact H3.out.set iW n1 n2 n3 _ _ _ _
  ·have:=mU.out;rw[if_neg k1,if_neg k2,if_neg k3,if_neg k4]at this;cases this
 ·clear vt;go_wp2_with (fail);refine bodyPost_ret (v:=.tuple #[B_ #[BQ none 0 0,BQ none 0 0,BQ none 0 0,J Y 0],J Y C]) (by simp[results,results82,go_sem,r0,r1,r2,r3]) rfl ⟨_,_,_,fun _=>⟨rfl,?_⟩,fun h=>absurd h hC⟩;exact Jql (Jgj hD.out iW _ _ _ _)
end
section
namespace RF
open Go.RowKit Ref Fx
theorem Jo8{b off:Nat}{o:Int}{n:Int}{ok:Bool}{w w1 w2:BV}(ho:Jba n ok=some o)(h1:B9 w.heap.size w w1)(h2:B9 w1.heap.size (Jc1 ⟨b,off,none⟩ (Jba n ok) w1) w2):
  Ending.returned (J Y ((Jba n ok).getD 0)) = BZ (J Y o)/\B9 w.heap.size w w2:=by
 rw[ho]at h2 ⊢;exact⟨rfl,Ju h1 h2⟩
theorem radd_ok(b:Nat)(x y n:Int)(w:BV)(hc:w.cell? ⟨b,0,none⟩=some (BT false))(hf:w.frozen? ⟨b,0,none⟩=false)(h:add x y=some n):
  Cd Tryz.prog 85 #[BO (some ⟨b,0,none⟩),J Y x,J Y y] w fun e W'=>e = BZ (J Y n)/\B9 w.heap.size w W':=by
 have hb:=Jd w (BP #[J Y x,J Y y] 3);have hc':=Jf hb hc;have hf':=Jg hb hc hf;have C1:=Jku x y w;have hg:(great x||great y)=false:=by
  cases hg:(great x||great y) with
  | false=>rfl
  | true=>simp[add,hg]at h
 have cD:add x y=told (x+y):=by simp[add,hg]
 rw[hg]at C1;have hx:-4611686018427387903<=x/\x<=4611686018427387903:=(not_great x).1 (by simp at hg;exact hg.1);have hy:-4611686018427387903<=y/\y<=4611686018427387903:=(not_great y).1 (by simp at hg;exact hg.2);have C2:BU _:=Ja8 b 0 false (x+y) true _ hc' hf';have K1:BU _:=C1;have HB:BU _:=hb;have HA:BU _:=cD.symm.trans h;clear C1 hb hc hf hc' hf' hg cD h;go_enter func85,ntmps85;go_wp2_with (fail);refine JA K1.out ?_;rintro e w1 ⟨rfl,rfl⟩;go_wp2_with (fail);refine JA C2.out ?_;rintro e w2 ⟨rfl,aj⟩;go_wp2_with (fail);go_ret;exact Jo8 HA.out HB.out aj
theorem rratio_ok(b:Nat)(x y z n:Int)(w:BV)(hc:w.cell? ⟨b,0,none⟩=some (BT false))(hf:w.frozen? ⟨b,0,none⟩=false)(h:Jw x y z=some n):
  Cd Tryz.prog 83 #[BO (some ⟨b,0,none⟩),J Y x,J Y y,J Y z] w fun e W'=>e = BZ (J Y n)/\B9 w.heap.size w W':=by
 have hb:=Jd w (BP #[J Y x,J Y y,J Y z] 3);have C1:=Jo5 x y z w;have HB:BU _:=hb;have HC:BU _:=hc;have HF:BU _:=hf;have z0:¬ z=0:=fun e=>by simp[Jw,e]at h
 have hg:(great x ||(great y||great z))=false:=by
  cases hg:(great x ||(great y||great z)) with
  | false=>rfl
  | true=>simp[Jw,z0,hg]at h
 have hx:-4611686018427387903<=x/\x<=4611686018427387903:=(not_great x).1 (by simp at hg;exact hg.1);have hy:-4611686018427387903<=y/\y<=4611686018427387903:=(not_great y).1 (by simp at hg;exact hg.2.1);have hz:-4611686018427387903<=z/\z<=4611686018427387903:=(not_great z).1 (by simp at hg;exact hg.2.2);rw[hg]at C1;have K1:BU _:=C1;have HA:BU _:=(by simp only[Jw,z0,hg];rfl:Jw x y z=told (fl (x*y) z))
 have HH:BU _:=h;clear C1 hb hc hf hg h;go_enter func83,ntmps83;go_wp2_with (fail);refine JA K1.out ?_;rintro e w1 ⟨rfl,rfl⟩;go_wp2_with (fail);refine(Je4 x _ (by omega) (by omega)).mono ?_;rintro e w1 ⟨u1,d1,rfl,S1,B1⟩;go_wp2_with (fail);refine(Je4 y _ (by omega) (by omega)).mono ?_;rintro e w2 ⟨u2,d2,rfl,S2,B2⟩;go_wp2_with (fail);refine(Jeb u1 u2 d1 d2 _ S1.out.1 S2.out.1 (by rw[S1.out.2,S2.out.2];exact Jij (by omega) (by omega))).mono ?_;rintro e w3 ⟨u3,d3,rfl,S3,B3⟩;go_wp2_with (fail);refine(Jh3 u3 d3 z _ S3.out.1 z0 hz.1 hz.2).mono ?_;rintro e w4 ⟨n4,ok,rfl,S4,B4⟩;have B5:BU (B9 w.heap.size w w4):=Ju (Ju (Ju (Ju HB.out B1.out) B2.out) B3.out) B4.out;have S5:BU _:=Jfu S4.out;rw[S3.out.2,S1.out.2,S2.out.2]at S5;clear S1 S2 S3 S4 B1 B2 B3 B4 K1;go_wp2_with (fail);refine(Ja8 b 0 false n4 ok _ (Jf B5.out HC.out) (Jg B5.out HC.out HF.out)).mono ?_;rintro e w6 ⟨rfl,aj⟩;go_wp2_with (fail);go_ret;exact Jo8 ((S5.out.trans HA.out.symm).trans HH.out) B5.out aj
theorem rmul_ok(b:Nat)(x y n:Int)(w:BV)(hc:w.cell? ⟨b,0,none⟩=some (BT false))(hf:w.frozen? ⟨b,0,none⟩=false)(h:mul x y=some n):
  Cd Tryz.prog 66 #[BO (some ⟨b,0,none⟩),J Y x,J Y y] w fun e W'=>e = BZ (J Y n)/\B9 w.heap.size w W':=by
 have C:BU _:=rratio_ok b x y 4294967296 n w hc hf (by rw[Jj7];exact h);clear hc hf;go_enter func66,ntmps66;go_wp2_with (fail);refine JA C.out ?_;rintro e w1 ⟨rfl,A⟩;go_wp2_with (fail);go_ret;exact⟨rfl,A⟩
end RF
open Go.RowKit Go.Shelf
structure LiesI(W:BV)(v:B7)(N:List Int):Prop where
 form:∃ o cap,v = BQ o N.length cap/\N.length<=cap/\cap<=9223372036854775807/\∀ i,i<N.length->∃ g,o=some ⟨g,0,none⟩/\W.cell? ⟨g,i,none⟩=some (J Y (N[i]?.getD 0))
theorem LiesI.of_row{W:BV}{base:Nat}{v:B7}{N:List Int}(h:W.ownsRow base 3 1 v N.length (N.map (.int .i64))):LiesI W v N:=by
 refine⟨?_⟩;rcases h.2 with ⟨rfl,h0⟩ |⟨g,cap,cur,rfl,hb,hg,h1,h2,h3,h4⟩
 ·exact⟨none,0,by rw[h0],by omega,by omega,fun i hi=>by omega⟩
 ·refine⟨_,cap,rfl,h1,by unfold maxLen at h2;omega,fun i hi=>⟨g,rfl,?_⟩⟩;refine(h.cellAt i (by omega)).trans ?_;simp[hi]
theorem LiesI.below{w W:BV}{v:B7}{N:List Int}(h:LiesI w v N)(hb:B9 w.heap.size w W):LiesI W v N:=by
 obtain⟨o,cap,e,h1,h2,h3⟩:=h.form;refine⟨o,cap,e,h1,h2,fun i hi=>?_⟩;obtain⟨g,e,a⟩:=h3 i hi;exact⟨g,e,Ja hb a⟩
def Jc0(N:List Int)(k:Nat):Int:=(N.take k).foldl Jfb (N[0]?.getD 0)
def Jcz(N:List Int)(k:Nat):Int:=(N.take k).foldl Jbp (N[0]?.getD 0)
theorem Jl1{N:List Int}{i:Nat}(h:i<N.length):N.take (i+1)=N.take i ++ [N[i]?.getD 0]:=by
 rw[List.take_succ_eq_append_getElem h,List.getElem?_eq_getElem h];rfl
theorem Jmm(N:List Int)(k:Nat)(hk:k<N.length):Jc0 N (k+1)=Jfb (Jc0 N k) (N[k]?.getD 0):=by unfold Jc0;rw[Jl1 hk,List.foldl_append];rfl
theorem Jk9(N:List Int)(k:Nat)(hk:k<N.length):Jcz N (k+1)=Jbp (Jcz N k) (N[k]?.getD 0):=by unfold Jcz;rw[Jl1 hk,List.foldl_append];rfl
theorem Jiw(f:Pt->Int)(op:Pt->Pt->Pt)(g:Int->Int->Int)(tu:∀ a p,f (op a p)=g (f a) (f p)):∀(l:List Pt) (a:Pt),(l.map f).foldl g (f a)=f (l.foldl op a)
 | [],a=>rfl
 | q::r,a=>by rw[List.map_cons,List.foldl_cons,List.foldl_cons,<- tu,Jiw f op g tu r]
theorem Jry(f:Pt->Int)(P:List Pt)(h0:0<P.length):(P.map f)[0]?.getD 0=f (pt P 0):=by unfold pt;simp[h0]
theorem Jkp(f:Pt->Int)(P:List Pt)(h0:0<P.length)(eU:∀ a p,f (Jr8 a p)=Jfb (f a) (f p))(yv:∀ a p,f (Jr7 a p)=Jbp (f a) (f p)):
  Jc0 (P.map f) (P.map f).length=f (Jdb P P.length)/\Jcz (P.map f) (P.map f).length=f (Jb9 P P.length):=by
 unfold Jc0 Jcz Jdb Jb9;rw[List.take_length,List.take_length,Jry f P h0];exact⟨Jiw f Jr8 Jfb eU P _,Jiw f Jr7 Jbp yv P _⟩
theorem Jv4(N:List Int)(m:Int)(dN:∀ n∈N,-m<=n/\n<=m)(h0:0<N.length):∀ k,k<=N.length->(-m<=Jc0 N k/\Jc0 N k<=m)/\(-m<=Jcz N k/\Jcz N k<=m)/\Jc0 N k<=Jcz N k:=by
 have get:∀ i,i<N.length->-m<=N[i]?.getD 0/\N[i]?.getD 0<=m:=fun i hi=>by
  have:=dN N[i] (List.getElem_mem hi);rw[List.getElem?_eq_getElem hi];exact this
 intro k
 induction k with
 | zero=>intro _;have:=get 0 h0;unfold Jc0 Jcz;simp only[List.take_zero,List.foldl_nil];omega
 | succ k ih =>
  intro hk;obtain⟨h1,h2,h3⟩:=ih (by omega);have hp:=get k (by omega);rw[Jmm N k (by omega),Jk9 N k (by omega)];unfold Jfb Jbp;refine⟨?_,?_,?_⟩ <;> (split <;> first | omega |(split <;> omega))
theorem Ji1(v:B7)(N:List Int)(r:Int)(w0:BV)(hv:LiesI w0 v N)(h0:0<N.length)(hl:N.length<=100)(dN:∀ n∈N,-65536<=n/\n<=65536)(hr:0<=r/\r<=16384):
  Cd Tryz.prog 84 #[v,J Y r] w0 fun e W=>e = BZ (J Y (hw (Jc0 N N.length) (Jcz N N.length) r))/\B9 w0.heap.size w0 W:=by
 obtain⟨o,c,rfl,fE,fF,ar⟩:=hv.form;have HC:BU _:=ar;obtain⟨g,rfl,y0⟩:=ar 0 h0;have HM:BU _:=Jv4 N 65536 dN h0;have HS:BU (Jc0 N 0=N[0]?.getD 0/\Jcz N 0=N[0]?.getD 0):=⟨rfl,rfl⟩
 obtain⟨n0,lm⟩:∃ n0,n0=N[0]?.getD 0:=⟨_,rfl⟩
 rw[<- lm]at y0 HS;clear ar hv dN lm;have hz:(0:Int)<(N.length:Int):=by omega
 obtain⟨R,hR⟩:∃ R,hw (Jc0 N N.length) (Jcz N N.length) r=R:=⟨_,rfl⟩
 rw[hR];have dC:BU _:=hR;clear hR;go_enter func84,ntmps84;go_wp2_with (fail)
 go_loopg [5,6,7] N.length (fun gm s5 s6 s7 wr=>∃ k:Nat,s5=J Y (Jc0 N k)/\s6=J Y (Jcz N k)/\s7=J Y (k:Int)/\k<=N.length/\gm=N.length-k/\wr=w0)
 case atStart=>exact⟨0,by rw[HS.out.1],by rw[HS.out.2],rfl,Nat.zero_le _,rfl,rfl⟩
 case round =>
  obtain⟨k,rfl,rfl,rfl,hk,be,rfl⟩:=hrel;have HG:BU _:=be;clear be y0;by_cases hkt:k<N.length
  ·obtain⟨g',e',x0⟩:=HC.out k hkt;cases e';have bR:BU _:=Jmm N k hkt;have cf:BU _:=Jk9 N k hkt;unfold Jfb at bR;unfold Jbp at cf;generalize N[k]?.getD 0=nk at *;generalize Jc0 N k=lo at *;generalize Jcz N k=hi at *;obtain⟨nl,e1⟩:∃ v,(if nk<lo then nk else lo)=v:=⟨_,rfl⟩
   obtain⟨nh,e2⟩:∃ v,(if nk>hi then nk else hi)=v:=⟨_,rfl⟩
   rw[e1]at bR;rw[e2]at cf;have mR:(k:Int)<(N.length:Int):=by omega
   go_wp2_with (fail)
   go_roundg (N.length-(k+1))
   case measure=>have:=HG.out;omega
   case rel=>exact⟨k+1,by rw[bR.out],by rw[cf.out],by go_num,by omega,rfl,rfl⟩
  ·have e:k=N.length:=by omega
   subst e;obtain⟨m1,m2,m3⟩:=HM.out N.length (Nat.le_refl _);have HW:BU (R=((Jcz N N.length-Jc0 N N.length).tdiv 2+r)*1048576):=dC.out.symm;clear dC;have hh:=Jf6 (r:=r) m1.1 m2.2 m3 hr.1 hr.2;generalize Jc0 N N.length=lo at *;generalize Jcz N N.length=hi at *;have q1:IntKind.i64.wrap (hi-lo)=hi-lo:=by rw[IntKind.wrap_i64];omega
   generalize hq:(hi-lo).tdiv 2=q at *;have q2:IntKind.i64.wrap (q+r)=q+r:=by rw[IntKind.wrap_i64];omega
   have q3:IntKind.i64.wrap ((q+r)*1048576)=(q+r)*1048576:=by rw[IntKind.wrap_i64];omega
   have q4:IntKind.i64.wrap q=q:=by rw[IntKind.wrap_i64];omega
   clear hh;go_wp2_with (fail);go_ret;exact⟨by rw[HW.out];rfl,Below.refl _ _⟩
end
section
open Go.RowKit Go.Shelf Fx
structure MP where
 m:Int
 x:Int
 y:Int
 z:Int
 e:Int
def MP.v(p:MP):B7:=.tuple #[B_ #[J Y p.m,J Y p.x,J Y p.y,J Y p.z],J Y p.e]
end
end Go.Proofs.YtkblcfgamnmbkaaGreat
