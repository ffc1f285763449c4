/- The document's own sides of a hull. -/
import Derived.Test.YteebbpioffdncaaGreatEBBack0
import Derived.Test.YteebbpioffdncaaGreatEBBack19
import Derived.Test.YteebbpioffdncaaGreatEBBack18
set_option maxHeartbeats 4000000
set_option maxRecDepth 100000
set_option linter.unusedVariables false
namespace Go.Proofs.YteebbpioffdncaaGreat
open Go.Calls renaming mono -> JA
open Go.Region renaming binds -> JC
open Go renaming execOp -> JD
open List renaming set_cons_succ -> JF
open List renaming set_cons_zero -> JG
open List renaming setIfInBounds_toArray -> JH
open Go.Value renaming int -> J
open Go.IntKind renaming i64 -> Y
section
open Go.RowKit Go.Shelf
theorem Jk0 (n a:Pt):∀ (L:List Pt) (s:Int),(L.foldl (fun s p=>Jec s (n.dot (p.sub a))) s < 0) ↔ (s < 0 \/ ∃ p ∈ L,n.dot (p.sub a) < 0)
 | [],s=>by simp
 | p :: r,s=>by
  rw [List.foldl_cons,Jk0 n a r]
  have:Jec s (n.dot (p.sub a)) < 0 ↔ (s < 0 \/ n.dot (p.sub a) < 0):=by unfold Jec;split <;> omega
  rw [this]
  simp only [List.mem_cons,exists_eq_or_imp,or_assoc]
theorem Ji1 (n a:Pt):∀ (L:List Pt) (s:Int),(0 < L.foldl (fun s p=>Jbr s (n.dot (p.sub a))) s) ↔ (0 < s \/ ∃ p ∈ L,0 < n.dot (p.sub a))
 | [],s=>by simp
 | p :: r,s=>by
  rw [List.foldl_cons,Ji1 n a r]
  have:0 < Jbr s (n.dot (p.sub a)) ↔ (0 < s \/ 0 < n.dot (p.sub a)):=by unfold Jbr;split <;> omega
  rw [this]
  simp only [List.mem_cons,exists_eq_or_imp,or_assoc]
theorem Jn6 (L:List Pt) (n a:Pt):Jeb L n a = if Ji6 L n a = true then (if below L n a = true then 0 else -1) else 1:=by
 have h1:=Ji1 n a L 0
 have h2:=Jk0 n a L 0
 have e1:Ji6 L n a = true ↔ ∃ p ∈ L,0 < n.dot (p.sub a):=by unfold Ji6;simp
 have e2:below L n a = true ↔ ∃ p ∈ L,n.dot (p.sub a) < 0:=by unfold below;simp
 unfold Jeb Jjo Jfv
 rw [List.take_length]
 simp only [e1,e2]
 by_cases a1:∃ p ∈ L,0 < n.dot (p.sub a)
 ·have:=h1.2 (Or.inr a1)
  rw [if_pos a1,if_neg (by omega)]
  by_cases a2:∃ p ∈ L,n.dot (p.sub a) < 0
  ·have:=h2.2 (Or.inr a2)
   rw [if_pos a2,if_neg (by omega)]
  ·have h3:¬ L.foldl (fun s p=>Jec s (n.dot (p.sub a))) 0 < 0:=fun h=>(h2.1 h).elim (fun h=>by omega) a2
   rw [if_neg a2,if_pos (by omega)]
 ·have h3:¬ 0 < L.foldl (fun s p=>Jbr s (n.dot (p.sub a))) 0:=fun h=>(h1.1 h).elim (fun h=>by omega) a1
  rw [if_neg a1,if_pos (by omega)]
def Jc4 (E:List Pt) (q:Pt):List Pt:=if q ∈ E \/ q.neg ∈ E then E else E ++ [q]
theorem Jrr {L:List Pt} {a b c:Pt} {s:List Pt × List Pt} (h:(b.sub a).cross (c.sub a) = Pt.O \/ Jeb L ((b.sub a).cross (c.sub a)) a = 0):Jl9 L a b c s = s:=by
 unfold Jl9
 dsimp only
 rw [if_pos]
 rcases h with h | h
 ·exact Or.inl h
 ·right
  rw [Jn6] at h
  split at h
  ·rename_i h1
   split at h
   ·rename_i h2;exact ⟨h1,h2⟩
   ·omega
  ·omega
def Jqd (sd:Int) (n:Pt):Pt:=if sd = 1 then n else n.neg
theorem Jp3 {L:List Pt} {a b c:Pt} {A E:List Pt} (h:¬ ((b.sub a).cross (c.sub a) = Pt.O \/ Jeb L ((b.sub a).cross (c.sub a)) a = 0)) :
  Jl9 L a b c (A,E) = (Ja8 A (Jqd (Jeb L ((b.sub a).cross (c.sub a)) a) ((b.sub a).cross (c.sub a))).short,Jc4 (Jc4 (Jc4 E (b.sub a).short) (c.sub a).short) (c.sub b).short)/\(Jeb L ((b.sub a).cross (c.sub a)) a = 1 \/ Jeb L ((b.sub a).cross (c.sub a)) a = -1):=by
 rw [not_or] at h
 generalize hn:(b.sub a).cross (c.sub a) = n at *
 have hs:=Jn6 L n a
 unfold Jl9 Jqd
 dsimp only
 rw [hn]
 by_cases h1:Ji6 L n a = true
 ·rw [if_pos h1] at hs
  by_cases h2:below L n a = true
  ·rw [if_pos h2] at hs;exact absurd hs h.2
  ·rw [if_neg h2] at hs
   rw [if_neg (fun k=>k.elim h.1 (fun k=>h2 k.2)),hs,if_pos h1,if_neg (by decide)]
   exact ⟨rfl,Or.inr rfl⟩
 ·rw [if_neg h1] at hs
  rw [if_neg (fun k=>k.elim h.1 (fun k=>h1 k.1)),hs,if_neg h1,if_pos rfl]
  exact ⟨rfl,Or.inl rfl⟩
theorem Jdh (a b:Int):(a == b) = decide (a = b):=by by_cases h:a = b <;> simp [h]
theorem Jts (a b:Bool):(a || (true && b)) = (a || b):=by cases a <;> cases b <;> rfl
theorem Jsl (a b:Bool):(a || (false && b)) = a:=by cases a <;> cases b <;> rfl
theorem Jpe (v:Value) (Ls:List Pt) (w0:World) (hv:Lies w0 v Ls) (h0:0 < Ls.length) (hl:Ls.length <= 12) (hin:∀ p ∈ Ls,p.inB 65536 = true) :
  Calls Tryz.prog 126 #[v] w0 fun e W=>∃ va ve,e = .returned (.tuple #[va,ve])/\Two w0 W va ve (Jdv Ls).1 (Jdv Ls).2 []:=by
 obtain ⟨o,c,rfl,hlc,hcm,hcell⟩:=hv.form
 have HV:Hid _:=hv
 have HC:Hid _:=hcell
 have HIN:Hid _:=hin
 obtain ⟨g,off,rfl,_,_,_⟩:=hcell 0 (by omega)
 clear hv hcell hin
 obtain ⟨Rz,hR⟩:∃ R,Jdv Ls = R:=⟨_,rfl⟩
 rw [hR]
 have HR:Hid (Jc5 Ls (Ls.drop 0) ([],[]) = Rz):=hR
 clear hR
 obtain ⟨i0,hii,hiz,hisz,hib⟩:=info_parts Jd7
 have HI:Hid _:=And.intro hii (And.intro hiz (And.intro hisz hib))
 clear hii hiz hisz hib
 go_enter Tryz.func126,Tryz.ntmps126
 go_wp2_with (fail)
 go_loopg [4,5,6] Ls.length (fun gm s4 s5 s6 wr=>∃ (i:Nat) (A E:List Pt) (oa oe:Option Addr) (ca ce:Nat),s4 = .slice oa A.length ca/\s5 = .slice oe E.length ce/\s6 = J Y (i:Int)/\i <= Ls.length/\gm = Ls.length - i/\A.length <= 144 * i/\E.length <= 432 * i/\Hid (Jc5 Ls (Ls.drop i) (A,E) = Rz)/\Hid (Two w0 wr (.slice oa A.length ca) (.slice oe E.length ce) A E []))
 case atStart=>exact ⟨0,[],[],none,none,0,0,rfl,rfl,rfl,Nat.zero_le _,rfl,Nat.zero_le _,Nat.zero_le _,HR,Two.start w0⟩
 case round =>
  clear HR
  obtain ⟨i,A,E,oa,oe,ca,ce,rfl,rfl,rfl,hi,hgm,hA,hE,HD,HT⟩:=hrel
  have HG1:Hid _:=hgm
  clear hgm
  by_cases hlt:i < Ls.length
  ·have hain:=HIN.out _ (Jaq hlt)
   have HXA:Hid _:=HC.out i hlt
   have HD:Hid (Jc5 Ls (Ls.drop (i + 1)) (Jj1 Ls (pt Ls i) (Ls.drop (i + 1)) (A,E)) = Rz):=by show _ = _;rw [<- HD.out,Jjr hlt];rfl
   generalize pt Ls i = pa at *
   go_wp2_with (fail)
   go_loopg [4,5,7] (Ls.length - (i + 1)) (fun gm s4 s5 s7 wx=>∃ (j:Nat) (A E:List Pt) (oa oe:Option Addr) (ca ce:Nat),s4 = .slice oa A.length ca/\s5 = .slice oe E.length ce/\s7 = J Y (j:Int)/\i + 1 <= j/\j <= Ls.length/\gm = Ls.length - j/\A.length <= 144 * i + 12 * j/\E.length <= 432 * i + 36 * j/\Hid (Jc5 Ls (Ls.drop (i + 1)) (Jj1 Ls pa (Ls.drop j) (A,E)) = Rz)/\Hid (Two w0 wx (.slice oa A.length ca) (.slice oe E.length ce) A E []))
   case atStart=>exact ⟨i + 1,A,E,oa,oe,ca,ce,rfl,rfl,by go_num,Nat.le_refl _,by omega,rfl,by omega,by omega,HD,HT⟩
   case round =>
    clear HD HT hA hE
    obtain ⟨jq,A,E,oa,oe,ca,ce,rfl,rfl,rfl,hij,hj,hgm,hA,hE,HD,HT⟩:=hrel
    have HG2:Hid _:=hgm
    clear hgm
    by_cases hjt:jq < Ls.length
    ·have hbin:=HIN.out _ (Jaq hjt)
     have HXB:Hid _:=HC.out jq hjt
     have HD:Hid (Jc5 Ls (Ls.drop (i + 1)) (Jj1 Ls pa (Ls.drop (jq + 1)) (Jhv Ls pa (pt Ls jq) (Ls.drop (jq + 1)) (A,E))) = Rz):=by show _ = _;rw [<- HD.out,Jjr hjt];rfl
     generalize pt Ls jq = pb at *
     go_wp2_with (fail)
     go_loopg [4,5,8] (Ls.length - (jq + 1)) (fun gm s4 s5 s8 wy=>∃ (k:Nat) (A E:List Pt) (oa oe:Option Addr) (ca ce:Nat),s4 = .slice oa A.length ca/\s5 = .slice oe E.length ce/\s8 = J Y (k:Int)/\jq + 1 <= k/\k <= Ls.length/\gm = Ls.length - k/\A.length <= 144 * i + 12 * jq + k/\E.length <= 432 * i + 36 * jq + 3 * k/\Hid (Jc5 Ls (Ls.drop (i + 1)) (Jj1 Ls pa (Ls.drop (jq + 1)) (Jhv Ls pa pb (Ls.drop k) (A,E))) = Rz)/\Hid (Two w0 wy (.slice oa A.length ca) (.slice oe E.length ce) A E []))
     case atStart=>exact ⟨jq + 1,A,E,oa,oe,ca,ce,rfl,rfl,by go_num,Nat.le_refl _,by omega,rfl,by omega,by omega,HD,HT⟩
     case round =>
      clear HD HT hA hE
      obtain ⟨kk,A,E,oa,oe,ca,ce,rfl,rfl,rfl,hjk,hk,hgm,hA,hE,HD,HT⟩:=hrel
      have HG3:Hid _:=hgm
      clear hgm
      by_cases hkt:kk < Ls.length
      ·have hcin:=HIN.out _ (Jaq hkt)
       have HXC:Hid _:=HC.out kk hkt
       have HD:Hid (Jc5 Ls (Ls.drop (i + 1)) (Jj1 Ls pa (Ls.drop (jq + 1)) (Jhv Ls pa pb (Ls.drop (kk + 1)) (Jl9 Ls pa pb (pt Ls kk) (A,E)))) = Rz):=by show _ = _;rw [<- HD.out,Jjr hkt];rfl
       generalize pt Ls kk = pc at *
       obtain ⟨g',off',e',x0,x1,x2⟩:=HXA.out
       cases e'
       obtain ⟨g',off',e',y0,y1,y2⟩:=HXB.out
       cases e'
       obtain ⟨g',off',e',z0,z1,z2⟩:=HXC.out
       cases e'
       have XX:Hid _:=And.intro x0 (And.intro x1 x2)
       have YY:Hid _:=And.intro y0 (And.intro y1 y2)
       have ZZ:Hid _:=And.intro z0 (And.intro z1 z2)
       have x0:=Ja HT.out.below x0
       have x1:=Ja HT.out.below x1
       have x2:=Ja HT.out.below x2
       have y0:=Ja HT.out.below y0
       have y1:=Ja HT.out.below y1
       have y2:=Ja HT.out.below y2
       have z0:=Ja HT.out.below z0
       have z1:=Ja HT.out.below z1
       have z2:=Ja HT.out.below z2
       have hnin:=Jhj (Jci hbin hain) (Jci hcin hain)
       have L3:Hid _:=fun w'=>Jh7 pa pb pc w' hain hbin hcin
       have HS1:Hid _:=@Jrr Ls pa pb pc (A,E)
       have HS2:Hid _:=@Jp3 Ls pa pb pc A E
       generalize hTr:Jl9 Ls pa pb pc (A,E) = Tr at *
       clear hTr
       generalize (pb.sub pa).cross (pc.sub pa) = n at *
       have HSD:Hid _:=fun w' (h:Lies w' (.slice (some ⟨g,off,none⟩) Ls.length c) Ls)=>Jqz _ Ls n pa w' h (by omega) HIN.out hain hnin
       generalize Jeb Ls n pa = sd at *
       unfold Pt.v at L3 HSD
       have hiz:(i:Int) < (Ls.length:Int):=by omega
       have hjz:(jq:Int) < (Ls.length:Int):=by omega
       have hkz:(kk:Int) < (Ls.length:Int):=by omega
       go_upto_region 12 with fail
       refine RV.rs [.some (.slice (some ⟨g,off,none⟩) Ls.length c),.some (J Y (i:Int)),.some (.pointer (some ⟨g,off + i * 3,none⟩)),.some (.agg #[J Y pa.x,J Y pa.y,J Y pa.z]),.some (.slice (some ⟨g,off,none⟩) Ls.length c),.some (J Y (jq:Int)),.some (.pointer (some ⟨g,off + jq * 3,none⟩)),.some (.agg #[J Y pb.x,J Y pb.y,J Y pb.z]),.some (.slice (some ⟨g,off,none⟩) Ls.length c),.some (J Y (kk:Int)),.some (.pointer (some ⟨g,off + kk * 3,none⟩)),.some (.agg #[J Y pc.x,J Y pc.y,J Y pc.z]),.some (.agg #[J Y n.x,J Y n.y,J Y n.z]),none,none] [39,40,41,42,43,44,45,46,47,48,49,50,51,10,0] [(0,.slice (some ⟨g,off,none⟩) Ls.length c),(6,J Y (i:Int)),(7,J Y (jq:Int)),(8,J Y (kk:Int))] (fun γ L w=>Below wr.heap.size wr w/\RV.Pend wr 23 13 14 #[J Y n.x,J Y n.y,J Y n.z] γ L w) ⟨rfl,rfl,rfl,rfl,trivial⟩ ?_ ?_ ?_
       ·exact ⟨(Below.refl _ wr).drew,RV.Pend.start rfl⟩
       ·intro D WA Z hD hWA hZ T
        simp only [RV.Outs,RV.Slots,Nat.reduceAdd] at T
        iterate 12 first
         | (refine RV.cc _ (RV.pu T (fun γ v L w hl h=>⟨h.1,h.2.other v (by decide) (by decide)⟩) (fun γ L a w hH hl h9 k9=>⟨_,?_,rfl⟩)) ?_;· simp [JD,go_sem,h9])
         | (refine RV.cc _ (RV.pu T (fun γ v L w hl h=>⟨h.1,h.2.other v (by decide) (by decide)⟩) (fun γ L a w hH hl h9 k9=>⟨_,?_,rfl⟩)) ?_;· simp [JC] at k9;simp [JD,go_sem,h9,k9,hiz,hjz,hkz])
         | (refine RV.cc _ (RV.pu T (fun γ v L w hl h=>⟨h.1,h.2.other v (by decide) (by decide)⟩) (fun γ L a w hH hl h9 k9=>⟨_,?_,rfl⟩)) ?_;· have v0:=Ja hH.glob.1 x0;have v1:=Ja hH.glob.1 x1;have v2:=Ja hH.glob.1 x2;simp [JC] at k9;simp [JD,go_sem,h9,k9,v0,v1,v2])
         | (refine RV.cc _ (RV.pu T (fun γ v L w hl h=>⟨h.1,h.2.other v (by decide) (by decide)⟩) (fun γ L a w hH hl h9 k9=>⟨_,?_,rfl⟩)) ?_;· have v0:=Ja hH.glob.1 y0;have v1:=Ja hH.glob.1 y1;have v2:=Ja hH.glob.1 y2;simp [JC] at k9;simp [JD,go_sem,h9,k9,v0,v1,v2])
         | (refine RV.cc _ (RV.pu T (fun γ v L w hl h=>⟨h.1,h.2.other v (by decide) (by decide)⟩) (fun γ L a w hH hl h9 k9=>⟨_,?_,rfl⟩)) ?_;· have v0:=Ja hH.glob.1 z0;have v1:=Ja hH.glob.1 z1;have v2:=Ja hH.glob.1 z2;simp [JC] at k9;simp [JD,go_sem,h9,k9,v0,v1,v2])
        refine RV.cc _ (RV.dc (fun γ L a w hH hl hA=>by have h9:=T γ L a w hH;have k9:=hA;simp [JC] at k9;exact ⟨148,#[.agg #[J Y pa.x,J Y pa.y,J Y pa.z],.agg #[J Y pb.x,J Y pb.y,J Y pb.z],.agg #[J Y pc.x,J Y pc.y,J Y pc.z]],by simp [go_sem,h9,k9],JA (L3.out w) (by rintro e w2 ⟨rfl,hb⟩;exact ⟨_,rfl,rfl,fun j v _ h=>h.keep _,hH.glob.1.trans (hb.mono hH.glob.1.size),(hH.glob.2.below hb).other _ (by decide) (by decide)⟩)⟩)) ?_
        refine RV.cc _ (RV.does_step (fun γ L a w hH hl hA=>by have h10:L 14 = false:=RV.ny hH (RV.wt (j:=14) (i:=13) hWA (by kernel_rfl)) hl;exact ⟨.pointer (some ⟨w.heap.size,0,none⟩),w.alloc (.cells #[J Y 0,J Y 0,J Y 0] 23),by simp [JD,go_sem],trivial,fun j v _ h=>h.keep _,hH.glob.1.alloc hH.glob.1.size _,RV.Pend.made _ rfl hH.glob.1.size h10 (by decide)⟩)) ?_
        refine RV.cc _ (RV.does_store (fun γ L a w hH hl hA=>by have h9:=T γ L a w hH;have k9:=hA;simp [JC] at k9;have l0:L 13 = true:=hA ⟨13,.data⟩ (by simp) rfl;have e0:=hH.slot 13 9 (by rw [<- hD];rfl) l0;obtain ⟨b,cs,hb1,hb2,hb3,hb4,_⟩:=hH.glob.2 l0;rw [hb1] at e0;obtain ⟨u0,u1,u2,rfl⟩:=Jue hb4;have z09:w.cell? ⟨b,0,none⟩ = some u0:=(by simp [World.cell?,hb3]);have z19:w.cell? ⟨b,1,none⟩ = some u1:=(by simp [World.cell?,hb3]);have z29:w.cell? ⟨b,2,none⟩ = some u2:=(by simp [World.cell?,hb3]);have zf:∀ o,w.frozen? ⟨b,o,none⟩ = false:=fun o=>(by simp [World.frozen?,hb3]);exact ⟨(((w.setCell ⟨b,0,none⟩ (J Y n.x)).setCell ⟨b,1,none⟩ (J Y n.y)).setCell ⟨b,2,none⟩ (J Y n.z)),by simp [JD,go_sem,e0,z09,z19,z29,zf,h9,k9],trivial,fun j v _ h=>h.keep _,((hH.glob.1.setCell hb2 _).setCell hb2 _).setCell hb2 _,RV.Pend.filled hb1 hb2 (by have q0:=Go.heap_setCell_same w b 0 _ _ (J Y n.x) hb3;have q1:=Go.heap_setCell_same _ b 1 _ _ (J Y n.y) q0;have q2:=Go.heap_setCell_same _ b 2 _ _ (J Y n.z) q1;simpa using q2) (by decide) _⟩)) ?_
        exact RV.AllDo.nil
       ·intro γ w5 L9 hL hI9 hG9
        obtain ⟨bn,cs,hb1,hb2,hb3,_,hb5⟩:=hG9.2 (hL 13 (by decide))
        rw [hb5 (hL 14 (by decide))] at hb3
        have hB5:=hG9.1
        clear hL hb5 hI9 hG9
        simp only [RV.putL,Act.put,JH,JG,JF,Nat.reduceAdd]
        rw [hb1]
        obtain ⟨W5,hW5⟩:∃ X:World,X = w5:=⟨_,rfl⟩
        rw [<- hW5] at hB5 hb3 ⊢
        have BN:Hid (Box3 W5 bn n):=⟨by simp [World.cell?,hb3],by simp [World.cell?,hb3],by simp [World.cell?,hb3],by simp [World.frozen?,hb3],by simp [World.frozen?,hb3],by simp [World.frozen?,hb3]⟩
        have HT:Hid _:=HT.out.step hB5
        clear hW5 hb1 hb2 hb3 hB5 L3 x0 x1 x2 y0 y1 y2 z0 z1 z2
        have x0:=Ja HT.out.below XX.out.1
        have x1:=Ja HT.out.below XX.out.2.1
        have x2:=Ja HT.out.below XX.out.2.2
        obtain ⟨q0,q1,q2,_,_,_⟩:=BN.out
        go_upto_region 13 with fail
        refine RV.rs [.some (.slice (some ⟨g,off,none⟩) Ls.length c),.some (.agg #[J Y n.x,J Y n.y,J Y n.z]),.some (.slice (some ⟨g,off,none⟩) Ls.length c),.some (J Y ((i:Int))),.some (.pointer (some ⟨g,off + i * 3,none⟩)),.some (.agg #[J Y pa.x,J Y pa.y,J Y pa.z]),.some (J Y sd),.some (J Y sd)] [52,53,54,55,56,57,58,11] [(0,.slice (some ⟨g,off,none⟩) Ls.length c),(6,J Y ((i:Int))),(9,.pointer (some ⟨bn,0,none⟩))] (fun γ L w9=>Below W5.heap.size W5 w9) ⟨rfl,rfl,rfl,trivial⟩ ?_ ?_ ?_
        ·exact (Below.refl _ W5).drew
        ·intro D WA Z hD hWA hZ T
         simp only [RV.Outs,RV.Slots,Nat.reduceAdd] at T
         iterate 6 first
          | (refine RV.cc _ (RV.pu T (fun γ v L w hl h=>h) (fun γ L a w hH hl h9 k9=>⟨_,?_,rfl⟩)) ?_;· simp [JD,go_sem,h9])
          | (refine RV.cc _ (RV.pu T (fun γ v L w hl h=>h) (fun γ L a w hH hl h9 k9=>⟨_,?_,rfl⟩)) ?_;· simp [JC] at k9;simp [JD,go_sem,h9,k9,hiz])
          | (refine RV.cc _ (RV.pu T (fun γ v L w hl h=>h) (fun γ L a w hH hl h9 k9=>⟨_,?_,rfl⟩)) ?_;· have hB9:=hH.glob;have v0:=Ja hB9 x0;have v1:=Ja hB9 x1;have v2:=Ja hB9 x2;simp [JC] at k9;simp [JD,go_sem,h9,k9,v0,v1,v2])
          | (refine RV.cc _ (RV.pu T (fun γ v L w hl h=>h) (fun γ L a w hH hl h9 k9=>⟨_,?_,rfl⟩)) ?_;· have hB9:=hH.glob;have q0:=Ja hB9 q0;have q1:=Ja hB9 q1;have q2:=Ja hB9 q2;simp [JD,go_sem,h9,q0,q1,q2])
         refine RV.cc _ (RV.dc (fun γ L a w hH hl hA=>by have h9:=T γ L a w hH;have k9:=hA;simp [JC] at k9;have hB9:=hH.glob;exact ⟨151,#[.slice (some ⟨g,off,none⟩) Ls.length c,.agg #[J Y n.x,J Y n.y,J Y n.z],.agg #[J Y pa.x,J Y pa.y,J Y pa.z]],by simp [go_sem,h9,k9],JA (HSD.out w ((HV.out.below HT.out.below).below hB9)) (by rintro e w2 ⟨rfl,hb⟩;exact ⟨_,rfl,rfl,fun j v _ h=>h.keep _,hB9.trans (hb.mono hB9.size)⟩)⟩)) ?_
         (refine RV.cc _ (RV.pu T (fun γ v L w hl h=>h) (fun γ L a w hH hl h9 k9=>⟨_,?_,rfl⟩)) ?_;· simp [JC] at k9;simp [JD,go_sem,h9,k9])
         exact RV.AllDo.nil
        ·intro γ w5 L9 hL hI9 hG9
         have hb8:=hG9
         clear hL hI9 hG9
         simp only [RV.putL,Act.put,JH,JG,JF]
         have HT:Hid _:=HT.out.step hb8
         have BN:Hid _:=BN.out.step hb8
         clear hb8 q0 q1 q2 x0 x1 x2 HSD
         obtain ⟨W6,hW6⟩:∃ X:World,X = w5:=⟨_,rfl⟩
         rw [<- hW6] at HT BN ⊢
         clear hW6
         obtain ⟨q0,q1,q2,_,_,_⟩:=BN.out
         go_upto_region 14 with fail
         go_cut [64] from 32 to 137 (fun s64 wc=>s64 = .bool (decide (n = Pt.O \/ sd = 0))/\wc = W6)
         case first =>
          by_cases ex:n.x = 0
          ·by_cases ey:n.y = 0
           ·by_cases ez:n.z = 0
            ·go_wp2_with (fail)
             go_meet
             case rel=>exact ⟨by simp [Jbe,Pt.O,ex,ey,ez],rfl⟩
            ·have e1:(n.z == 0) = false:=beq_eq_false_iff_ne.2 ez
             go_wp2_with (fail)
             go_meet
             case rel=>exact ⟨by simp [Jbe,Pt.O,ez];exact Jdh sd 0,rfl⟩
           ·have e1:(n.y == 0) = false:=beq_eq_false_iff_ne.2 ey
            go_wp2_with (fail)
            go_meet
            case rel=>exact ⟨by simp [Jbe,Pt.O,ey];exact Jdh sd 0,rfl⟩
          ·have e1:(n.x == 0) = false:=beq_eq_false_iff_ne.2 ex
           go_wp2_with (fail)
           go_meet
           case rel=>exact ⟨by simp [Jbe,Pt.O,ex];exact Jdh sd 0,rfl⟩
         case rest =>
          obtain ⟨rfl,hwc⟩:=hcut
          subst hwc
          clear q0 q1 q2
          by_cases hno:n = Pt.O \/ sd = 0
          ·have e:Tr = (A,E):=HS1.out hno
           rw [decide_eq_true hno]
           subst e
           clear HS1 HS2 hno
           go_wp2_with (fail)
           go_roundg (Ls.length - (kk + 1))
           case measure=>have:=HG3.out;omega
           case rel=>exact ⟨kk + 1,A,E,oa,oe,ca,ce,rfl,rfl,by go_num,by omega,by omega,rfl,by omega,by omega,HD,HT⟩
          ·obtain ⟨e,hsd⟩:=HS2.out hno
           rw [decide_eq_false hno]
           subst e
           clear HS1 HS2 hno
           go_upto_region 15 with fail
           go_cut [11] from 32 to 137 (fun s11 wx=>∃ b:Nat,s11 = .pointer (some ⟨b,0,none⟩)/\Hid (Box3 wx b (Jqd sd n).short)/\Hid (Two w0 wx (.slice oa A.length ca) (.slice oe E.length ce) A E []))
           case first =>
            obtain ⟨q0,q1,q2,_,_,_⟩:=BN.out
            have nb:=(Pt.inB_iff _ _).1 hnin
            rcases hsd with rfl | rfl
            ·go_wp2_with (fail)
             refine JA (Jc7 n _) ?_
             rintro e W7 ⟨rfl,hb⟩
             have HT:Hid _:=(HT.out.step hb).step (Jb _ (.cells #[J Y n.short.x,J Y n.short.y,J Y n.short.z] 23))
             clear hb
             unfold Pt.v
             go_wp2_with (fail)
             go_meet
             case rel=>exact ⟨_,rfl,Box3.new W7 n.short.x n.short.y n.short.z _,HT⟩
            ·have m1:IntKind.i64.wrap (-1 * n.x) = -n.x:=by rw [IntKind.wrap_i64];omega
             have m2:IntKind.i64.wrap (-1 * n.y) = -n.y:=by rw [IntKind.wrap_i64];omega
             have m3:IntKind.i64.wrap (-1 * n.z) = -n.z:=by rw [IntKind.wrap_i64];omega
             have m4:IntKind.i64.wrap (-n.x) = -n.x:=by rw [IntKind.wrap_i64];omega
             have m5:IntKind.i64.wrap (-n.y) = -n.y:=by rw [IntKind.wrap_i64];omega
             have m6:IntKind.i64.wrap (-n.z) = -n.z:=by rw [IntKind.wrap_i64];omega
             go_wp2_with (fail)
             refine JA (Jc7 n.neg _) ?_
             rintro e W7 ⟨rfl,hb⟩
             have HT:Hid _:=(HT.out.step hb).step (Jb _ (.cells #[J Y n.neg.short.x,J Y n.neg.short.y,J Y n.neg.short.z] 23))
             clear hb
             unfold Pt.v
             go_wp2_with (fail)
             go_meet
             case rel=>exact ⟨_,rfl,Box3.new W7 n.neg.short.x n.neg.short.y n.neg.short.z _,HT⟩
           case rest =>
            clear HT BN
            obtain ⟨ba,rfl,BA,HT⟩:=hcut
            have hn3:=J6 (Jfu (Jqd sd n)) (show (1048576:Int) <= 1152921504606846976 by decide)
            generalize (Jqd sd n).short = n3 at *
            obtain ⟨q0,q1,q2,_,_,_⟩:=BA.out
            have hAs:A.length <= 1000000:=by omega
            have HH:Hid _:=Jn7 _ A n3 false wc (Lies.of_row HT.out.ra) hAs hn3
            rw [Jsl] at HH
            unfold Pt.v at HH
            go_wp2_with (fail)
            refine JA HH.out ?_
            clear HH
            rintro e W8 ⟨rfl,hb⟩
            have HT:Hid _:=HT.out.step hb
            have BA:Hid _:=BA.out.step hb
            clear hb q0 q1 q2
            go_upto_if 83 with fail
            go_cut [4,12] from 32 to 137 (fun s4 s12 wx=>∃ (oa':Option Addr) (ca':Nat),s4 = .slice oa' (Ja8 A n3).length ca'/\Hid (Two w0 wx (.slice oa' (Ja8 A n3).length ca') (.slice oe E.length ce) (Ja8 A n3) E []))
            case first =>
             by_cases hm:n3 ∈ A
             ·have hw:Ja8 A n3 = A:=by unfold Ja8;rw [if_pos hm]
              rw [decide_eq_true hm]
              have HW:Hid _:=hw
              clear hm hw
              go_wp2_with (fail)
              go_meet
              case rel=>exact ⟨oa,ca,by rw [HW.out],by rw [HW.out];exact HT⟩
             ·have hw:Ja8 A n3 = A ++ [n3]:=by unfold Ja8;rw [if_neg hm]
              rw [decide_eq_false hm]
              have HW:Hid _:=hw
              clear hm hw
              obtain ⟨q0,q1,q2,_,_,_⟩:=BA.out
              have hsz:=HT.out.below.size
              go_wp2_with (at_builtin;refine wpList_append_own_at _ rfl _ _ 24 rfl w0.heap.size 23 i0 _ 3 24 Tryz.underlying24 HI.out.1 HI.out.2.1 HI.out.2.2.1 HI.out.2.2.2 rfl (by decide) _ _ _ rfl (Jq HT.out.ra (Jb W8 _)) ⟨W8.heap.size,0,none⟩ 1 1 [J Y n3.x,J Y n3.y,J Y n3.z] rfl rfl (Jb7 (heap_alloc_new W8 _)) (by intro u hu;simp at hu;rcases hu with rfl | rfl | rfl <;> rfl) (by unfold maxLen;omega) (by omega) (by simp;omega) ?_;intro u9 V2 r8 g8 _ s8)
              have hrow:V2.ownsRow w0.heap.size 23 3 u9 (A ++ [n3]).length (fl3 (A ++ [n3])):=by rw [Jat,List.length_append];exact r8
              have HT2:=(HT.out.step (Jb W8 (.cells #[J Y n3.x,J Y n3.y,J Y n3.z] 23))).axis hrow ⟨g8,by rcases s8 with e | e;exact Or.inl e;exact Or.inr ⟨_,e,Nat.le_refl _⟩⟩
              obtain ⟨o9,c9,rfl,_⟩:=(Lies.of_row hrow).form
              go_meet
              case rel=>exact ⟨o9,c9,by rw [HW.out],by rw [HW.out];exact HT2⟩
            case rest =>
             clear HT BA
             obtain ⟨oa',ca',rfl,HT⟩:=hcut
             have hA':=Jq9 A n3
             generalize Ja8 A n3 = A' at *
             go_upto_region 19 with fail
             have L1:Hid _:=fun w'=>Jce pb pa w' (J6 hbin (by decide)) (J6 hain (by decide))
             have L2:Hid _:=fun w'=>Jce pc pa w' (J6 hcin (by decide)) (J6 hain (by decide))
             have L3:Hid _:=fun w'=>Jce pc pb w' (J6 hcin (by decide)) (J6 hbin (by decide))
             have M1:Hid _:=fun w'=>Jc7 (pb.sub pa) w'
             have M2:Hid _:=fun w'=>Jc7 (pc.sub pa) w'
             have M3:Hid _:=fun w'=>Jc7 (pc.sub pb) w'
             unfold Pt.v at L1 L2 L3 M1 M2 M3
             have x0:=Ja HT.out.below XX.out.1
             have x1:=Ja HT.out.below XX.out.2.1
             have x2:=Ja HT.out.below XX.out.2.2
             have y0:=Ja HT.out.below YY.out.1
             have y1:=Ja HT.out.below YY.out.2.1
             have y2:=Ja HT.out.below YY.out.2.2
             have z0:=Ja HT.out.below ZZ.out.1
             have z1:=Ja HT.out.below ZZ.out.2.1
             have z2:=Ja HT.out.below ZZ.out.2.2
             obtain ⟨Wx,hWx⟩:∃ X:World,X = wc:=⟨_,rfl⟩
             rw [<- hWx] at HT x0 x1 x2 y0 y1 y2 z0 z1 z2 ⊢
             clear hWx
             refine RV.region_by (fun j v w=>match j with | 0=>v = .slice (some ⟨g,off,none⟩) Ls.length c | 1=>v = J Y (jq:Int) | 2=>v = .pointer (some ⟨g,off + jq * 3,none⟩) | 3=>v = .agg #[J Y pb.x,J Y pb.y,J Y pb.z] | 4=>v = .slice (some ⟨g,off,none⟩) Ls.length c | 5=>v = J Y (i:Int) | 6=>v = .pointer (some ⟨g,off + i * 3,none⟩) | 7=>v = .agg #[J Y pa.x,J Y pa.y,J Y pa.z] | 8=>v = .agg #[J Y ((pb.sub pa)).x,J Y ((pb.sub pa)).y,J Y ((pb.sub pa)).z] | 9=>v = .agg #[J Y ((pb.sub pa).short).x,J Y ((pb.sub pa).short).y,J Y ((pb.sub pa).short).z] | 10=>v = .slice (some ⟨g,off,none⟩) Ls.length c | 11=>v = J Y (kk:Int) | 12=>v = .pointer (some ⟨g,off + kk * 3,none⟩) | 13=>v = .agg #[J Y pc.x,J Y pc.y,J Y pc.z] | 14=>v = .slice (some ⟨g,off,none⟩) Ls.length c | 15=>v = J Y (i:Int) | 16=>v = .pointer (some ⟨g,off + i * 3,none⟩) | 17=>v = .agg #[J Y pa.x,J Y pa.y,J Y pa.z] | 18=>v = .agg #[J Y ((pc.sub pa)).x,J Y ((pc.sub pa)).y,J Y ((pc.sub pa)).z] | 19=>v = .agg #[J Y ((pc.sub pa).short).x,J Y ((pc.sub pa).short).y,J Y ((pc.sub pa).short).z] | 20=>v = .slice (some ⟨g,off,none⟩) Ls.length c | 21=>v = J Y (kk:Int) | 22=>v = .pointer (some ⟨g,off + kk * 3,none⟩) | 23=>v = .agg #[J Y pc.x,J Y pc.y,J Y pc.z] | 24=>v = .slice (some ⟨g,off,none⟩) Ls.length c | 25=>v = J Y (jq:Int) | 26=>v = .pointer (some ⟨g,off + jq * 3,none⟩) | 27=>v = .agg #[J Y pb.x,J Y pb.y,J Y pb.z] | 28=>v = .agg #[J Y ((pc.sub pb)).x,J Y ((pc.sub pb)).y,J Y ((pc.sub pb)).z] | 29=>v = .agg #[J Y ((pc.sub pb).short).x,J Y ((pc.sub pb).short).y,J Y ((pc.sub pb).short).z] | 30=>(fun v w=>∃ g9,v = .slice (some ⟨g9,0,none⟩) 3 3/\Wx.heap.size <= g9/\g9 < w.heap.size/\At w g9 [(pb.sub pa).short,(pc.sub pa).short,(pc.sub pb).short]) v w | 31=>(fun v w=>∃ g9,v = .slice (some ⟨g9,0,none⟩) 3 3/\Wx.heap.size <= g9/\g9 < w.heap.size/\At w g9 [(pb.sub pa).short,(pc.sub pa).short,(pc.sub pb).short]) v w | _=>True) (fun γ L w=>Below Wx.heap.size Wx w) (by kernel_rfl) (by kernel_rfl) (by kernel_rfl) (by kernel_rfl) ?_ ?_ ?_
             ·exact (Below.refl _ Wx).drew
             ·generalize hD:Jai _ = D
              generalize hWA:Jab _ = WA
              generalize hZ:Act.mk _ _ = Z
              refine RV.AllDo.name ?_
              intro R hR
              have kn:RV.Kn R [.some (.slice (some ⟨g,off,none⟩) Ls.length c),.some (J Y (jq:Int)),.some (.pointer (some ⟨g,off + jq * 3,none⟩)),.some (.agg #[J Y pb.x,J Y pb.y,J Y pb.z]),.some (.slice (some ⟨g,off,none⟩) Ls.length c),.some (J Y (i:Int)),.some (.pointer (some ⟨g,off + i * 3,none⟩)),.some (.agg #[J Y pa.x,J Y pa.y,J Y pa.z]),.some (.agg #[J Y ((pb.sub pa)).x,J Y ((pb.sub pa)).y,J Y ((pb.sub pa)).z]),.some (.agg #[J Y ((pb.sub pa).short).x,J Y ((pb.sub pa).short).y,J Y ((pb.sub pa).short).z]),.some (.slice (some ⟨g,off,none⟩) Ls.length c),.some (J Y (kk:Int)),.some (.pointer (some ⟨g,off + kk * 3,none⟩)),.some (.agg #[J Y pc.x,J Y pc.y,J Y pc.z]),.some (.slice (some ⟨g,off,none⟩) Ls.length c),.some (J Y (i:Int)),.some (.pointer (some ⟨g,off + i * 3,none⟩)),.some (.agg #[J Y pa.x,J Y pa.y,J Y pa.z]),.some (.agg #[J Y ((pc.sub pa)).x,J Y ((pc.sub pa)).y,J Y ((pc.sub pa)).z]),.some (.agg #[J Y ((pc.sub pa).short).x,J Y ((pc.sub pa).short).y,J Y ((pc.sub pa).short).z]),.some (.slice (some ⟨g,off,none⟩) Ls.length c),.some (J Y (kk:Int)),.some (.pointer (some ⟨g,off + kk * 3,none⟩)),.some (.agg #[J Y pc.x,J Y pc.y,J Y pc.z]),.some (.slice (some ⟨g,off,none⟩) Ls.length c),.some (J Y (jq:Int)),.some (.pointer (some ⟨g,off + jq * 3,none⟩)),.some (.agg #[J Y pb.x,J Y pb.y,J Y pb.z]),.some (.agg #[J Y ((pc.sub pb)).x,J Y ((pc.sub pb)).y,J Y ((pc.sub pb)).z]),.some (.agg #[J Y ((pc.sub pb).short).x,J Y ((pc.sub pb).short).y,J Y ((pc.sub pb).short).z]),none,none] 0:=by rw [hR];exact ⟨fun _ _=>Iff.rfl,fun _ _=>Iff.rfl,fun _ _=>Iff.rfl,fun _ _=>Iff.rfl,fun _ _=>Iff.rfl,fun _ _=>Iff.rfl,fun _ _=>Iff.rfl,fun _ _=>Iff.rfl,fun _ _=>Iff.rfl,fun _ _=>Iff.rfl,fun _ _=>Iff.rfl,fun _ _=>Iff.rfl,fun _ _=>Iff.rfl,fun _ _=>Iff.rfl,fun _ _=>Iff.rfl,fun _ _=>Iff.rfl,fun _ _=>Iff.rfl,fun _ _=>Iff.rfl,fun _ _=>Iff.rfl,fun _ _=>Iff.rfl,fun _ _=>Iff.rfl,fun _ _=>Iff.rfl,fun _ _=>Iff.rfl,fun _ _=>Iff.rfl,fun _ _=>Iff.rfl,fun _ _=>Iff.rfl,fun _ _=>Iff.rfl,fun _ _=>Iff.rfl,fun _ _=>Iff.rfl,fun _ _=>Iff.rfl,trivial⟩
              have T:=RV.kfacts [89,90,91,92,93,94,95,96,97,98,99,100,101,102,103,104,105,106,107,108,109,110,111,112,113,114,115,116,117,118,119,14] [(0,.slice (some ⟨g,off,none⟩) Ls.length c),(6,J Y (i:Int)),(7,J Y (jq:Int)),(8,J Y (kk:Int))] hD hZ kn ⟨rfl,rfl,rfl,rfl,trivial⟩ (by kernel_rfl) (by kernel_rfl)
              simp only [RV.Outs,RV.Slots,Nat.reduceAdd] at T
              have r30:∀ v w,R 30 v w = ((fun v w=>∃ g9,v = .slice (some ⟨g9,0,none⟩) 3 3/\Wx.heap.size <= g9/\g9 < w.heap.size/\At w g9 [(pb.sub pa).short,(pc.sub pa).short,(pc.sub pb).short]) v w):=fun v w=>by rw [hR];rfl
              have r31:∀ v w,R 31 v w = ((fun v w=>∃ g9,v = .slice (some ⟨g9,0,none⟩) 3 3/\Wx.heap.size <= g9/\g9 < w.heap.size/\At w g9 [(pb.sub pa).short,(pc.sub pa).short,(pc.sub pb).short]) v w):=fun v w=>by rw [hR];rfl
              have K:∀ j v w w',Below w.heap.size w w'->R j v w->R j v w':=by
               rw [hR]
               intro j v w w' hb h
               revert h
               dsimp only
               split
               all_goals first | exact id | exact (fun ⟨g9,t1,t2,t3,t4⟩=>⟨g9,t1,t2,Nat.lt_of_lt_of_le t3 hb.size,t4.below hb⟩)
              iterate 8 first
               | (refine RV.cc _ (RV.pk kn T (fun γ v L w hl h=>h) (fun γ L a w hH hl h9 k9=>⟨_,?_,rfl⟩)) ?_;· simp [JD,go_sem,h9])
               | (refine RV.cc _ (RV.pk kn T (fun γ v L w hl h=>h) (fun γ L a w hH hl h9 k9=>⟨_,?_,rfl⟩)) ?_;· simp [JC] at k9;simp [JD,go_sem,h9,k9,hjz,hiz])
               | (refine RV.cc _ (RV.pk kn T (fun γ v L w hl h=>h) (fun γ L a w hH hl h9 k9=>⟨_,?_,rfl⟩)) ?_;· have v0:=Ja hH.glob y0;have v1:=Ja hH.glob y1;have v2:=Ja hH.glob y2;simp [JC] at k9;simp [JD,go_sem,h9,k9,v0,v1,v2])
               | (refine RV.cc _ (RV.pk kn T (fun γ v L w hl h=>h) (fun γ L a w hH hl h9 k9=>⟨_,?_,rfl⟩)) ?_;· have v0:=Ja hH.glob x0;have v1:=Ja hH.glob x1;have v2:=Ja hH.glob x2;simp [JC] at k9;simp [JD,go_sem,h9,k9,v0,v1,v2])
              refine RV.cc _ (RV.dc (fun γ L a w hH hl hA=>by have h9:=T _ _ γ L a w hH;have k9:=hA;simp [JC] at k9;exact ⟨150,#[.agg #[J Y pb.x,J Y pb.y,J Y pb.z],.agg #[J Y pa.x,J Y pa.y,J Y pa.z]],by simp [go_sem,h9,k9],JA (L1.out w) (by rintro e w2 ⟨rfl,hb⟩;exact ⟨_,rfl,((kn.at (k:=8) rfl _ _).2 rfl),fun j v _ h=>K j v _ _ hb h,hH.glob.trans (hb.mono hH.glob.size)⟩)⟩)) ?_
              refine RV.cc _ (RV.dc (fun γ L a w hH hl hA=>by have h9:=T _ _ γ L a w hH;have k9:=hA;simp [JC] at k9;exact ⟨152,#[.agg #[J Y ((pb.sub pa)).x,J Y ((pb.sub pa)).y,J Y ((pb.sub pa)).z]],by simp [go_sem,h9,k9],JA (M1.out w) (by rintro e w2 ⟨rfl,hb⟩;exact ⟨_,rfl,((kn.at (k:=9) rfl _ _).2 rfl),fun j v _ h=>K j v _ _ hb h,hH.glob.trans (hb.mono hH.glob.size)⟩)⟩)) ?_
              iterate 8 first
               | (refine RV.cc _ (RV.pk kn T (fun γ v L w hl h=>h) (fun γ L a w hH hl h9 k9=>⟨_,?_,rfl⟩)) ?_;· simp [JD,go_sem,h9])
               | (refine RV.cc _ (RV.pk kn T (fun γ v L w hl h=>h) (fun γ L a w hH hl h9 k9=>⟨_,?_,rfl⟩)) ?_;· simp [JC] at k9;simp [JD,go_sem,h9,k9,hkz,hiz])
               | (refine RV.cc _ (RV.pk kn T (fun γ v L w hl h=>h) (fun γ L a w hH hl h9 k9=>⟨_,?_,rfl⟩)) ?_;· have v0:=Ja hH.glob z0;have v1:=Ja hH.glob z1;have v2:=Ja hH.glob z2;simp [JC] at k9;simp [JD,go_sem,h9,k9,v0,v1,v2])
               | (refine RV.cc _ (RV.pk kn T (fun γ v L w hl h=>h) (fun γ L a w hH hl h9 k9=>⟨_,?_,rfl⟩)) ?_;· have v0:=Ja hH.glob x0;have v1:=Ja hH.glob x1;have v2:=Ja hH.glob x2;simp [JC] at k9;simp [JD,go_sem,h9,k9,v0,v1,v2])
              refine RV.cc _ (RV.dc (fun γ L a w hH hl hA=>by have h9:=T _ _ γ L a w hH;have k9:=hA;simp [JC] at k9;exact ⟨150,#[.agg #[J Y pc.x,J Y pc.y,J Y pc.z],.agg #[J Y pa.x,J Y pa.y,J Y pa.z]],by simp [go_sem,h9,k9],JA (L2.out w) (by rintro e w2 ⟨rfl,hb⟩;exact ⟨_,rfl,((kn.at (k:=18) rfl _ _).2 rfl),fun j v _ h=>K j v _ _ hb h,hH.glob.trans (hb.mono hH.glob.size)⟩)⟩)) ?_
              refine RV.cc _ (RV.dc (fun γ L a w hH hl hA=>by have h9:=T _ _ γ L a w hH;have k9:=hA;simp [JC] at k9;exact ⟨152,#[.agg #[J Y ((pc.sub pa)).x,J Y ((pc.sub pa)).y,J Y ((pc.sub pa)).z]],by simp [go_sem,h9,k9],JA (M2.out w) (by rintro e w2 ⟨rfl,hb⟩;exact ⟨_,rfl,((kn.at (k:=19) rfl _ _).2 rfl),fun j v _ h=>K j v _ _ hb h,hH.glob.trans (hb.mono hH.glob.size)⟩)⟩)) ?_
              iterate 8 first
               | (refine RV.cc _ (RV.pk kn T (fun γ v L w hl h=>h) (fun γ L a w hH hl h9 k9=>⟨_,?_,rfl⟩)) ?_;· simp [JD,go_sem,h9])
               | (refine RV.cc _ (RV.pk kn T (fun γ v L w hl h=>h) (fun γ L a w hH hl h9 k9=>⟨_,?_,rfl⟩)) ?_;· simp [JC] at k9;simp [JD,go_sem,h9,k9,hkz,hjz])
               | (refine RV.cc _ (RV.pk kn T (fun γ v L w hl h=>h) (fun γ L a w hH hl h9 k9=>⟨_,?_,rfl⟩)) ?_;· have v0:=Ja hH.glob z0;have v1:=Ja hH.glob z1;have v2:=Ja hH.glob z2;simp [JC] at k9;simp [JD,go_sem,h9,k9,v0,v1,v2])
               | (refine RV.cc _ (RV.pk kn T (fun γ v L w hl h=>h) (fun γ L a w hH hl h9 k9=>⟨_,?_,rfl⟩)) ?_;· have v0:=Ja hH.glob y0;have v1:=Ja hH.glob y1;have v2:=Ja hH.glob y2;simp [JC] at k9;simp [JD,go_sem,h9,k9,v0,v1,v2])
              refine RV.cc _ (RV.dc (fun γ L a w hH hl hA=>by have h9:=T _ _ γ L a w hH;have k9:=hA;simp [JC] at k9;exact ⟨150,#[.agg #[J Y pc.x,J Y pc.y,J Y pc.z],.agg #[J Y pb.x,J Y pb.y,J Y pb.z]],by simp [go_sem,h9,k9],JA (L3.out w) (by rintro e w2 ⟨rfl,hb⟩;exact ⟨_,rfl,((kn.at (k:=28) rfl _ _).2 rfl),fun j v _ h=>K j v _ _ hb h,hH.glob.trans (hb.mono hH.glob.size)⟩)⟩)) ?_
              refine RV.cc _ (RV.dc (fun γ L a w hH hl hA=>by have h9:=T _ _ γ L a w hH;have k9:=hA;simp [JC] at k9;exact ⟨152,#[.agg #[J Y ((pc.sub pb)).x,J Y ((pc.sub pb)).y,J Y ((pc.sub pb)).z]],by simp [go_sem,h9,k9],JA (M3.out w) (by rintro e w2 ⟨rfl,hb⟩;exact ⟨_,rfl,((kn.at (k:=29) rfl _ _).2 rfl),fun j v _ h=>K j v _ _ hb h,hH.glob.trans (hb.mono hH.glob.size)⟩)⟩)) ?_
              refine RV.cc _ (RV.does_step (fun γ L a w hH hl hA=>by have h9:=T _ _ γ L a w hH;have k9:=hA;simp [JC] at k9;exact ⟨.slice (some ⟨w.heap.size,0,none⟩) 3 3,w.alloc (.cells #[J Y (pb.sub pa).short.x,J Y (pb.sub pa).short.y,J Y (pb.sub pa).short.z,J Y (pc.sub pa).short.x,J Y (pc.sub pa).short.y,J Y (pc.sub pa).short.z,J Y (pc.sub pb).short.x,J Y (pc.sub pb).short.y,J Y (pc.sub pb).short.z] 23),by simp [JD,go_sem,h9,k9],(r30 _ _).mpr ⟨w.heap.size,rfl,hH.glob.size,by simp,Jti w (pb.sub pa).short (pc.sub pa).short (pc.sub pb).short _⟩,fun j v _ h=>K j v _ _ (Jb w _) h,hH.glob.trans ((Jb w _).mono hH.glob.size)⟩)) ?_
              refine RV.cc _ (RV.dp (fun γ v L w hl h=>h) (fun γ L a w hH hl hA=>by have l0:L 30 = true:=hA ⟨30,.data⟩ (by simp) rfl;have e0:=hH.slot 30 118 (by rw [<- hD];rfl) l0;have g0:=hH.holds 30 l0;rw [r30] at g0;exact ⟨γ 30,by simp [JD,go_sem,e0],(r31 _ _).mpr g0⟩)) ?_
              exact RV.AllDo.nil
             ·intro γ a5 w5 L9 hL hLo hH
              have ha:=RV.held_act hH hL (by kernel_rfl) (by kernel_rfl)
              obtain ⟨g9,y31,yg,yl,yat⟩:∃ g9,γ 31 = .slice (some ⟨g9,0,none⟩) 3 3/\Wx.heap.size <= g9/\g9 < w5.heap.size/\At w5 g9 [(pb.sub pa).short,(pc.sub pa).short,(pc.sub pb).short]:=hH.holds 31 (hL 31 (by decide))
              have hb8:=hH.glob
              rw [ha]
              clear ha hH hL hLo
              simp only [RV.putAll,Act.put,JH,JG,JF,Nat.zero_add,Nat.reduceAdd]
              rw [y31]
              have na:(Value.slice oa' A'.length ca').ownBlock ≠ some g9:=fun e=>by have:=(HT.out.ra.lt _ e).2;omega
              have ne:(Value.slice oe E.length ce).ownBlock ≠ some g9:=fun e=>by have:=(HT.out.re.lt _ e).2;omega
              have HT:Hid _:=HT.out.step hb8
              have HAT:Hid _:=yat
              have i1:=J6 (Jfu (pb.sub pa)) (show (1048576:Int) <= 1152921504606846976 by decide)
              have i2:=J6 (Jfu (pc.sub pa)) (show (1048576:Int) <= 1152921504606846976 by decide)
              have i3:=J6 (Jfu (pc.sub pb)) (show (1048576:Int) <= 1152921504606846976 by decide)
              generalize (pb.sub pa).short = t1 at *
              generalize (pc.sub pa).short = t2 at *
              generalize (pc.sub pb).short = t3 at *
              have HTI:Hid (∀ m,m < 3->(pt [t1,t2,t3] m).inB 1152921504606846976 = true):=fun m hm=>by
               match m,hm with
               | 0,_=>exact i1
               | 1,_=>exact i2
               | 2,_=>exact i3
              clear hb8 y31 yat x0 x1 x2 y0 y1 y2 z0 z1 z2 L1 L2 L3 M1 M2 M3 i1 i2 i3
              obtain ⟨Wy,hWy⟩:∃ X:World,X = w5:=⟨_,rfl⟩
              rw [<- hWy] at HT HAT yl ⊢
              clear hWy
              have HED:Hid (Jc4 (Jc4 (Jc4 E t1) t2) t3 = [t1,t2,t3].foldl Jc4 E):=rfl
              rw [HED.out] at HD
              clear HED
              generalize hQQ:[t1,t2,t3] = QQ at *
              have hQl:QQ.length = 3:=by rw [<- hQQ];rfl
              clear hQQ
              go_wp2_with (fail)
              go_loopg [5,14] 3 (fun gm s5 s14 wz=>∃ (m:Nat) (E2:List Pt) (oe2:Option Addr) (ce2:Nat),s5 = .slice oe2 E2.length ce2/\s14 = J Y (m:Int)/\m <= 3/\gm = 3 - m/\E2.length <= E.length + m/\Hid ((QQ.take m).foldl Jc4 E = E2)/\Hid (Two w0 wz (.slice oa' A'.length ca') (.slice oe2 E2.length ce2) A' E2 [])/\Hid (At wz g9 QQ/\(Value.slice oe2 E2.length ce2).ownBlock ≠ some g9/\g9 < wz.heap.size))
              case atStart=>exact ⟨0,E,oe,ce,rfl,rfl,by omega,rfl,by omega,rfl,HT,HAT.out,ne,yl⟩
              case round =>
               clear HT HAT ne yl
               obtain ⟨m,E2,oe2,ce2,rfl,rfl,hm,hgm,hE2,HF,HT,HAT⟩:=hrel
               have HG4:Hid _:=hgm
               clear hgm
               by_cases hmt:m < 3
               ·obtain ⟨x0,x1,x2⟩:=HAT.out.1 m (by omega)
                have hqin:=HTI.out m hmt
                have HF:Hid ((QQ.take (m + 1)).foldl Jc4 E = Jc4 E2 (pt QQ m)):=by show _ = _;rw [Jb2 (by omega),List.foldl_append,HF.out];rfl
                generalize pt QQ m = q at *
                have hEs:E2.length <= 1000000:=by omega
                have HH:Hid _:=fun w' (h:Lies w' (.slice oe2 E2.length ce2) E2)=>Jn7 _ E2 q true w' h hEs hqin
                unfold Pt.v at HH
                have hmz:(m:Int) < 3:=by omega
                go_wp2_with (fail)
                refine JA (HH.out _ (Lies.of_row HT.out.re)) ?_
                clear HH
                rintro e W9 ⟨rfl,hb⟩
                rw [Jts]
                have HT:Hid _:=HT.out.step hb
                have x0:=Ja hb x0
                have x1:=Ja hb x1
                have x2:=Ja hb x2
                have HAT:Hid (At W9 g9 QQ/\(Value.slice oe2 E2.length ce2).ownBlock ≠ some g9/\g9 < W9.heap.size):=⟨HAT.out.1.below hb,HAT.out.2.1,Nat.lt_of_lt_of_le HAT.out.2.2 hb.size⟩
                clear hb
                by_cases hq:q ∈ E2 \/ q.neg ∈ E2
                ·have hw:Jc4 E2 q = E2:=by unfold Jc4;rw [if_pos hq]
                 have hd:(decide (q ∈ E2) || decide (q.neg ∈ E2)) = true:=by simpa using hq
                 rw [hd]
                 rw [hw] at HF
                 clear hq hw hd x0 x1 x2
                 go_wp2_with (fail)
                 go_roundg (3 - (m + 1))
                 case measure=>have:=HG4.out;omega
                 case rel=>exact ⟨m + 1,E2,oe2,ce2,rfl,by go_num,by omega,rfl,by omega,HF,HT,HAT⟩
                ·have hw:Jc4 E2 q = E2 ++ [q]:=by unfold Jc4;rw [if_neg hq]
                 have hd:(decide (q ∈ E2) || decide (q.neg ∈ E2)) = false:=by simpa using hq
                 rw [hd]
                 rw [hw] at HF
                 clear hq hw hd
                 have hsz:=HT.out.below.size
                 go_wp2_with (at_builtin;refine wpList_append_own_at _ rfl _ _ 24 rfl w0.heap.size 23 i0 _ 3 24 Tryz.underlying24 HI.out.1 HI.out.2.1 HI.out.2.2.1 HI.out.2.2.2 rfl (by decide) _ _ _ rfl (Jq HT.out.re (Jb W9 _)) ⟨W9.heap.size,0,none⟩ 1 1 [J Y q.x,J Y q.y,J Y q.z] rfl rfl (Jb7 (heap_alloc_new W9 _)) (by intro u hu;simp at hu;rcases hu with rfl | rfl | rfl <;> rfl) (by unfold maxLen;omega) (by omega) (by simp;omega) ?_;intro u9 V2 r8 g8 _ s8)
                 have hrow:V2.ownsRow w0.heap.size 23 3 u9 (E2 ++ [q]).length (fl3 (E2 ++ [q])):=by rw [Jat,List.length_append];exact r8
                 have hgr:Grew (W9.alloc (.cells #[J Y q.x,J Y q.y,J Y q.z] 23)) V2 (.slice oe2 E2.length ce2) u9:=⟨g8,by rcases s8 with e | e;exact Or.inl e;exact Or.inr ⟨_,e,Nat.le_refl _⟩⟩
                 have HT2:=(HT.out.step (Jb W9 (.cells #[J Y q.x,J Y q.y,J Y q.z] 23))).edge hrow hgr
                 have hat2:At V2 g9 QQ/\u9.ownBlock ≠ some g9/\g9 < V2.heap.size:=by
                  refine ⟨(HAT.out.1.below (Jb W9 _)).grown hgr.grown HAT.out.2.1,fun e=>?_,?_⟩
                  ·have k:=HAT.out.2.2
                   rcases hgr.same with s | ⟨k9,s,hk9⟩
                   ·exact HAT.out.2.1 (s ▸ e)
                   ·rw [s] at e;cases e;simp at hk9;omega
                  ·have k:=HAT.out.2.2;have k2:=hgr.grown.size;simp at k2;omega
                 obtain ⟨o9,c9,rfl,_⟩:=(Lies.of_row hrow).form
                 have HT2:Hid _:=HT2
                 have HAT2:Hid _:=hat2
                 clear r8 g8 s8 hrow hgr hat2
                 go_roundg (3 - (m + 1))
                 case measure=>have:=HG4.out;omega
                 case rel=>exact ⟨m + 1,E2 ++ [q],o9,c9,rfl,by go_num,by omega,rfl,by rw [List.length_append];simp;omega,HF,HT2,HAT2⟩
               ·have e:m = 3:=by omega
                subst e
                have HF:Hid (QQ.foldl Jc4 E = E2):=by show _ = _;rw [<- HF.out,List.take_of_length_le (by omega)]
                rw [HF.out] at HD
                go_wp2_with (fail)
                go_roundg (Ls.length - (kk + 1))
                case measure=>have:=HG3.out;omega
                case rel=>exact ⟨kk + 1,A',E2,oa',oe2,ca',ce2,rfl,rfl,by go_num,by omega,by omega,rfl,by omega,by omega,HD,HT⟩
      ·have HD:Hid (Jc5 Ls (Ls.drop (i + 1)) (Jj1 Ls pa (Ls.drop (jq + 1)) (A,E)) = Rz):=by show _ = _;rw [<- HD.out,List.drop_eq_nil_of_le (by omega:Ls.length <= kk)];rfl
       go_wp2_with (fail)
       go_roundg (Ls.length - (jq + 1))
       case measure=>have:=HG2.out;omega
       case rel=>exact ⟨jq + 1,A,E,oa,oe,ca,ce,rfl,rfl,by go_num,by omega,by omega,rfl,by omega,by omega,HD,HT⟩
    ·have HD:Hid (Jc5 Ls (Ls.drop (i + 1)) (A,E) = Rz):=by show _ = _;rw [<- HD.out,List.drop_eq_nil_of_le (by omega:Ls.length <= jq)];rfl
     go_wp2_with (fail)
     go_roundg (Ls.length - (i + 1))
     case measure=>have:=HG1.out;omega
     case rel=>exact ⟨i + 1,A,E,oa,oe,ca,ce,rfl,rfl,by go_num,by omega,rfl,by omega,by omega,HD,HT⟩
  ·have e:Rz = (A,E):=by rw [<- HD.out,List.drop_eq_nil_of_le (by omega:Ls.length <= i)];rfl
   subst e
   go_wp2_with (fail)
   go_ret2
   exact ⟨_,_,rfl,HT.out⟩
end
section
open Go.RowKit Go.Shelf Fx
def Jqq (a p:Pt):Pt:=⟨Jec a.x p.x,Jec a.y p.y,Jec a.z p.z⟩
def Jqk (a p:Pt):Pt:=⟨Jbr a.x p.x,Jbr a.y p.y,Jbr a.z p.z⟩
def Jc0 (P:List Pt) (k:Nat):Pt:=(P.take k).foldl Jqq (pt P 0)
def Jb3 (P:List Pt) (k:Nat):Pt:=(P.take k).foldl Jqk (pt P 0)
theorem Jrd (P:List Pt) (k:Nat) (hk:k < P.length):Jc0 P (k + 1) = Jqq (Jc0 P k) (pt P k):=by unfold Jc0;rw [Jb2 hk,List.foldl_append];rfl
theorem Jok (P:List Pt) (k:Nat) (hk:k < P.length):Jb3 P (k + 1) = Jqk (Jb3 P k) (pt P k):=by unfold Jb3;rw [Jb2 hk,List.foldl_append];rfl
theorem Jgj (P:List Pt) (m:Int) (hin:∀ p ∈ P,p.inB m = true) (h0:0 < P.length):∀ k,k <= P.length->(Jc0 P k).inB m = true/\(Jb3 P k).inB m = true/\((Jc0 P k).x <= (Jb3 P k).x/\(Jc0 P k).y <= (Jb3 P k).y/\(Jc0 P k).z <= (Jb3 P k).z):=by
 intro k
 induction k with
 | zero =>
  intro _
  have:=hin _ (Jaq h0)
  refine ⟨this,this,Int.le_refl _,Int.le_refl _,Int.le_refl _⟩
 | succ k ih =>
  intro hk
  obtain ⟨h1,h2,h3⟩:=ih (by omega)
  have hp:=hin _ (Jaq (show k < P.length by omega))
  rw [Jrd P k (by omega),Jok P k (by omega)]
  rw [Pt.inB_iff] at h1 h2 hp ⊢
  rw [Pt.inB_iff]
  unfold Jqq Jqk Jec Jbr
  dsimp only
  refine ⟨⟨?_,?_,?_⟩,⟨?_,?_,?_⟩,?_,?_,?_⟩ <;> (split <;> first | omega | (split <;> omega))
def hw (lo hi r:Int):Int:=((hi - lo).tdiv 2 + r) * 1048576
def Jbd (P:List Pt) (r:Int):Pt:=⟨hw (Jc0 P P.length).x (Jb3 P P.length).x r,hw (Jc0 P P.length).y (Jb3 P P.length).y r,hw (Jc0 P P.length).z (Jb3 P P.length).z r⟩
theorem Jid {lo hi r:Int} (h1:-65536 <= lo) (h2:hi <= 65536) (h3:lo <= hi) (h4:0 <= r) (h5:r <= 16384):0 <= hw lo hi r/\hw lo hi r <= 85899345920/\0 <= (hi - lo).tdiv 2/\(hi - lo).tdiv 2 <= 65536:=by
 unfold hw
 have e:(hi - lo).tdiv 2 = (hi - lo) / 2:=Int.tdiv_eq_ediv_of_nonneg (by omega)
 rw [e]
 omega
end
section
open Go.RowKit Go.Shelf Fx
def Jfk (s:Sh) (m:Int):Pt:=if s.kind = 1 then ⟨Jgp m (s.radius * 1048576),Jgp m (s.radius * 1048576),Jgp m (s.radius * 1048576)⟩ else ⟨Jjp m (Jbd (Jch s) s.radius).y (Jbd (Jch s) s.radius).z,Jjp m (Jbd (Jch s) s.radius).z (Jbd (Jch s) s.radius).x,Jjp m (Jbd (Jch s) s.radius).x (Jbd (Jch s) s.radius).y⟩
end
section
open Go.RowKit Go.Shelf
theorem Jhc {s:Sh} (h:Jaj s = 0):(1 <= s.kind/\s.kind <= 4)/\(0 <= s.radius/\s.radius <= 16384)/\0 < (Jch s).length/\(Jch s).length <= 100/\∀ p ∈ Jch s,p.inB 65536 = true:=by
 have hf:Jbj s = true:=by
  cases hf:Jbj s with
  | true=>rfl
  | false=>unfold Jaj at h;rw [hf] at h;simp at h
 obtain ⟨k,r,⟨x,y,z⟩,L⟩:=s
 unfold Jbj at hf
 unfold Jch
 dsimp only at hf ⊢
 by_cases k1:k = 1
 ·subst k1
  rw [if_pos rfl] at hf
  have:=of_decide_eq_true hf
  rw [if_pos rfl]
  exact ⟨by omega,by omega,by simp,by simp,fun p hp=>by simp at hp;subst hp;decide⟩
 rw [if_neg k1] at hf ⊢
 by_cases k2:k = 2
 ·subst k2
  rw [if_pos rfl,Bool.and_eq_true] at hf
  have a:=of_decide_eq_true hf.1
  have b:=of_decide_eq_true hf.2
  rw [if_pos rfl]
  refine ⟨by omega,by omega,by simp,by simp,fun p hp=>?_⟩
  simp only [List.mem_cons,List.not_mem_nil,or_false] at hp
  rw [Pt.inB_iff]
  rcases hp with rfl | rfl <;> (dsimp only;omega)
 rw [if_neg k2] at hf ⊢
 by_cases k3:k = 3
 ·subst k3
  rw [if_pos rfl,Bool.and_eq_true,Bool.and_eq_true,Bool.and_eq_true] at hf
  have a:=of_decide_eq_true hf.1
  have b:=of_decide_eq_true hf.2.1
  have c:=of_decide_eq_true hf.2.2.1
  have d:=of_decide_eq_true hf.2.2.2
  rw [if_pos rfl]
  refine ⟨by omega,by omega,by simp [J1],by simp [J1],fun p hp=>?_⟩
  simp only [J1,List.mem_cons,List.not_mem_nil,or_false] at hp
  rw [Pt.inB_iff]
  rcases hp with rfl | rfl | rfl | rfl | rfl | rfl | rfl | rfl <;> (dsimp only;omega)
 rw [if_neg k3] at hf ⊢
 by_cases k4:k = 4
 ·subst k4
  rw [if_pos rfl,Bool.and_eq_true] at hf
  have a:=of_decide_eq_true hf.1
  obtain ⟨m1,m2,m3,m4⟩:=Jev hf.2
  exact ⟨by omega,by omega,by omega,by omega,m3⟩
 ·rw [if_neg k4] at hf;cases hf
theorem Jkc:∀ (L:List Pt) (k:Nat),fl3 (L.drop k) = (fl3 L).drop (k * 3)
 | L,0=>by simp
 | [],k + 1=>by simp [fl3]
 | p :: r,k + 1=>by rw [show (k + 1) * 3 = k * 3 + 3 by omega];simp only [List.drop_succ_cons,fl3];exact Jkc r k
theorem Lies.read {w:World} {g off n c:Nat} {L:List Pt} (h:Lies w (.slice (some ⟨g,off,none⟩) n c) L):∀ (k:Nat) (M:List Pt),(∃ R,L.drop k = M ++ R)->∀ j u,(fl3 M)[j]? = some u->w.cell? ((⟨g,off + k * 3,none⟩:Addr).add j) = some u:=by
 intro k M ⟨R,hR⟩ j u hj
 obtain ⟨o,cap,e,_,_,hc⟩:=h.cells
 simp only [Value.slice.injEq] at e
 obtain ⟨rfl,rfl,rfl⟩:=e
 have ad:(⟨g,off + k * 3,none⟩:Addr).add j = ⟨g,off + k * 3 + j,none⟩:=by unfold Addr.add;split <;> simp_all
 rw [ad]
 have hL:(fl3 L)[k * 3 + j]? = some u:=by
  rw [<- List.getElem?_drop,<- Jkc,hR,Jat,List.getElem?_append_left (List.getElem?_eq_some_iff.1 hj).1]
  exact hj
 rcases hc with rfl | ⟨g',off',e',hc⟩
 ·simp [fl3] at hL
 ·cases e'
  rw [Nat.add_assoc]
  exact hc _ _ hL
end
end Go.Proofs.YteebbpioffdncaaGreat
