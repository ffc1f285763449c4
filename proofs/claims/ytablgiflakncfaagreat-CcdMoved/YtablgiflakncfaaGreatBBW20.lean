/- The document's own test of a direction in a list. -/
import Derived.Test.YtablgiflakncfaaGreatBBW8
import Derived.Test.YtablgiflakncfaaGreatBBW0
import Derived.Test.YtablgiflakncfaaGreatBBW9
set_option maxHeartbeats 4000000
set_option maxRecDepth 100000
set_option linter.unusedVariables false
namespace Go.Proofs.YtablgiflakncfaaGreat
section
open Go.RowKit Go.Shelf
theorem has_any (v:Value) (Ls:List Pt) (p:Pt) (both:Bool) (w0:World) (hv:Lies w0 v Ls) (hl:Ls.length <= 1000000) (hp:p.inB 1152921504606846976 = true) :
  Calls Tryz.prog 131 #[v,p.v,.bool both] w0 fun e W=>e = .returned (.bool (decide (p ∈ Ls) || (both && decide (p.neg ∈ Ls))))/\Below w0.heap.size w0 W:=by
 obtain ⟨o,c,rfl,hlc,hcm,hcell⟩:=hv.form
 have HC:Hid _:=hcell
 clear hcell hv
 rw [Pt.inB_iff] at hp
 have HT:Hid (∀ k,k < Ls.length->(pt Ls k = p \/ (both = true/\pt Ls k = p.neg))->(decide (p ∈ Ls) || (both && decide (p.neg ∈ Ls))) = true):=fun k hk h=>by
  rcases h with h | ⟨h1,h2⟩
  ·rw [decide_eq_true (h ▸ pt_mem hk:p ∈ Ls)];rfl
  ·rw [h1,decide_eq_true (h2 ▸ pt_mem hk:p.neg ∈ Ls)];simp
 have HE:Hid ((∀ k,k < Ls.length->¬ (pt Ls k = p \/ (both = true/\pt Ls k = p.neg)))->(decide (p ∈ Ls) || (both && decide (p.neg ∈ Ls))) = false):=fun h=>by
  have h1:¬ p ∈ Ls:=fun hm=>by
   obtain ⟨k,hk,e⟩:=pt_of_mem hm
   exact h k hk (Or.inl e)
  rw [decide_eq_false h1]
  cases both with
  | false=>rfl
  | true =>
   have h2:¬ p.neg ∈ Ls:=fun hm=>by
    obtain ⟨k,hk,e⟩:=pt_of_mem hm
    exact h k hk (Or.inr ⟨rfl,e⟩)
   rw [decide_eq_false h2];rfl
 generalize (decide (p ∈ Ls) || (both && decide (p.neg ∈ Ls))) = R at *
 have B1:Hid (Box3 (w0.alloc (.cells #[.int .i64 p.x,.int .i64 p.y,.int .i64 p.z] 45)) w0.heap.size p):=Box3.new w0 p.x p.y p.z _
 have hB:Hid (Below w0.heap.size w0 (w0.alloc (.cells #[.int .i64 p.x,.int .i64 p.y,.int .i64 p.z] 45))):=n_after w0 _
 have n1:IntKind.i64.wrap (-p.x) = -p.x:=by rw [IntKind.wrap_i64];omega
 have n2:IntKind.i64.wrap (-p.y) = -p.y:=by rw [IntKind.wrap_i64];omega
 have n3:IntKind.i64.wrap (-p.z) = -p.z:=by rw [IntKind.wrap_i64];omega
 clear hp
 unfold Pt.v
 go_enter Tryz.func131,Tryz.ntmps131
 go_wp2_with (fail)
 obtain ⟨V,hV⟩:∃ V:World,V = w0.alloc (.cells #[.int .i64 p.x,.int .i64 p.y,.int .i64 p.z] 45):=⟨_,rfl⟩
 obtain ⟨bp,hbp⟩:∃ bp,bp = w0.heap.size:=⟨_,rfl⟩
 rw [<- hV] at B1 hB ⊢
 rw [<- hbp] at B1 ⊢
 clear hV hbp
 go_loopg [7] Ls.length (fun gm s wr=>∃ k:Nat,s = .int .i64 (k:Int)/\k <= Ls.length/\gm = Ls.length - k/\Hid (∀ j,j < k->¬ (pt Ls j = p \/ (both = true/\pt Ls j = p.neg)))/\Hid (Below V.heap.size V wr))
 case atStart=>exact ⟨0,rfl,Nat.zero_le _,rfl,fun j h=>absurd h (Nat.not_lt_zero _),Below.refl _ _⟩
 case round =>
  obtain ⟨k,rfl,hk,hgm,HA,HB⟩:=hrel
  have HG:Hid _:=hgm
  clear hgm
  by_cases hkt:k < Ls.length
  ·obtain ⟨g,off,rfl,x0,x1,x2⟩:=HC.out k hkt
   have x0:=c_after HB.out (c_after hB.out x0)
   have x1:=c_after HB.out (c_after hB.out x1)
   have x2:=c_after HB.out (c_after hB.out x2)
   obtain ⟨p0,p1,p2,_,_,_⟩:=B1.out.step HB.out
   have HT1:Hid _:=HT.out k hkt
   have HN1:Hid (¬ (pt Ls k = p \/ (both = true/\pt Ls k = p.neg))->∀ j,j < k + 1->¬ (pt Ls j = p \/ (both = true/\pt Ls j = p.neg))):=fun h j hj=>by
    by_cases e:j = k
    ·subst e;exact h
    ·exact HA.out j (by omega)
   clear HT HE HA
   generalize pt Ls k = m at *
   cases both with
   | false =>
    by_cases ex:m.x = p.x
    ·by_cases ey:m.y = p.y
     ·by_cases ez:m.z = p.z
      ·have e:R = true:=HT1.out (Or.inl ((pt_eq _ _).2 ⟨ex,ey,ez⟩))
       subst e
       clear HT1 HN1
       go_wp2_with (fail)
       go_region
       go_wp2_with (fail)
       go_ret
       exact ⟨rfl,b_step hB.out HB.out.drew⟩
      ·have HN2:Hid _:=HN1.out (fun h=>h.elim (fun h=>ez ((pt_eq _ _).1 h).2.2) (fun h=>by cases h.1))
       clear HT1 HN1
       go_wp2_with (fail)
       go_region
       go_wp2_with (fail)
       go_roundg (Ls.length - (k + 1))
       case measure=>have:=HG.out;omega
       case rel=>exact ⟨k + 1,by go_num,by omega,rfl,HN2,HB.out.drew⟩
     ·have HN2:Hid _:=HN1.out (fun h=>h.elim (fun h=>ey ((pt_eq _ _).1 h).2.1) (fun h=>by cases h.1))
      clear HT1 HN1
      go_wp2_with (fail)
      go_region
      go_wp2_with (fail)
      go_roundg (Ls.length - (k + 1))
      case measure=>have:=HG.out;omega
      case rel=>exact ⟨k + 1,by go_num,by omega,rfl,HN2,HB.out.drew⟩
    ·have HN2:Hid _:=HN1.out (fun h=>h.elim (fun h=>ex ((pt_eq _ _).1 h).1) (fun h=>by cases h.1))
     clear HT1 HN1
     go_wp2_with (fail)
     go_region
     go_wp2_with (fail)
     go_roundg (Ls.length - (k + 1))
     case measure=>have:=HG.out;omega
     case rel=>exact ⟨k + 1,by go_num,by omega,rfl,HN2,HB.out.drew⟩
   | true =>
    by_cases ex:m.x = p.x
    ·by_cases ey:m.y = p.y
     ·by_cases ez:m.z = p.z
      ·have e:R = true:=HT1.out (Or.inl ((pt_eq _ _).2 ⟨ex,ey,ez⟩))
       subst e
       clear HT1 HN1
       go_wp2_with (fail)
       go_region
       go_wp2_with (fail)
       go_ret
       exact ⟨rfl,b_step hB.out HB.out.drew⟩
      ·have hne:¬ m = p:=fun h=>ez ((pt_eq _ _).1 h).2.2
       by_cases dx:m.x = -p.x
       ·by_cases dy:m.y = -p.y
        ·by_cases dz:m.z = -p.z
         ·have e:R = true:=HT1.out (Or.inr ⟨rfl,(pt_eq _ _).2 ⟨dx,dy,dz⟩⟩)
          subst e
          clear HT1 HN1
          go_wp2_with (fail)
          go_region
          go_wp2_with (fail)
          go_ret
          exact ⟨rfl,b_step hB.out HB.out.drew⟩
         ·have HN2:Hid _:=HN1.out (fun h=>h.elim hne (fun h=>(fun h=>dz ((pt_eq _ _).1 h).2.2) h.2))
          clear HT1 HN1
          go_wp2_with (fail)
          go_region
          go_wp2_with (fail)
          go_roundg (Ls.length - (k + 1))
          case measure=>have:=HG.out;omega
          case rel=>exact ⟨k + 1,by go_num,by omega,rfl,HN2,HB.out.drew⟩
        ·have HN2:Hid _:=HN1.out (fun h=>h.elim hne (fun h=>(fun h=>dy ((pt_eq _ _).1 h).2.1) h.2))
         clear HT1 HN1
         go_wp2_with (fail)
         go_region
         go_wp2_with (fail)
         go_roundg (Ls.length - (k + 1))
         case measure=>have:=HG.out;omega
         case rel=>exact ⟨k + 1,by go_num,by omega,rfl,HN2,HB.out.drew⟩
       ·have HN2:Hid _:=HN1.out (fun h=>h.elim hne (fun h=>(fun h=>dx ((pt_eq _ _).1 h).1) h.2))
        clear HT1 HN1
        go_wp2_with (fail)
        go_region
        go_wp2_with (fail)
        go_roundg (Ls.length - (k + 1))
        case measure=>have:=HG.out;omega
        case rel=>exact ⟨k + 1,by go_num,by omega,rfl,HN2,HB.out.drew⟩
     ·have hne:¬ m = p:=fun h=>ey ((pt_eq _ _).1 h).2.1
      by_cases dx:m.x = -p.x
      ·by_cases dy:m.y = -p.y
       ·by_cases dz:m.z = -p.z
        ·have e:R = true:=HT1.out (Or.inr ⟨rfl,(pt_eq _ _).2 ⟨dx,dy,dz⟩⟩)
         subst e
         clear HT1 HN1
         go_wp2_with (fail)
         go_region
         go_wp2_with (fail)
         go_ret
         exact ⟨rfl,b_step hB.out HB.out.drew⟩
        ·have HN2:Hid _:=HN1.out (fun h=>h.elim hne (fun h=>(fun h=>dz ((pt_eq _ _).1 h).2.2) h.2))
         clear HT1 HN1
         go_wp2_with (fail)
         go_region
         go_wp2_with (fail)
         go_roundg (Ls.length - (k + 1))
         case measure=>have:=HG.out;omega
         case rel=>exact ⟨k + 1,by go_num,by omega,rfl,HN2,HB.out.drew⟩
       ·have HN2:Hid _:=HN1.out (fun h=>h.elim hne (fun h=>(fun h=>dy ((pt_eq _ _).1 h).2.1) h.2))
        clear HT1 HN1
        go_wp2_with (fail)
        go_region
        go_wp2_with (fail)
        go_roundg (Ls.length - (k + 1))
        case measure=>have:=HG.out;omega
        case rel=>exact ⟨k + 1,by go_num,by omega,rfl,HN2,HB.out.drew⟩
      ·have HN2:Hid _:=HN1.out (fun h=>h.elim hne (fun h=>(fun h=>dx ((pt_eq _ _).1 h).1) h.2))
       clear HT1 HN1
       go_wp2_with (fail)
       go_region
       go_wp2_with (fail)
       go_roundg (Ls.length - (k + 1))
       case measure=>have:=HG.out;omega
       case rel=>exact ⟨k + 1,by go_num,by omega,rfl,HN2,HB.out.drew⟩
    ·have hne:¬ m = p:=fun h=>ex ((pt_eq _ _).1 h).1
     by_cases dx:m.x = -p.x
     ·by_cases dy:m.y = -p.y
      ·by_cases dz:m.z = -p.z
       ·have e:R = true:=HT1.out (Or.inr ⟨rfl,(pt_eq _ _).2 ⟨dx,dy,dz⟩⟩)
        subst e
        clear HT1 HN1
        go_wp2_with (fail)
        go_region
        go_wp2_with (fail)
        go_ret
        exact ⟨rfl,b_step hB.out HB.out.drew⟩
       ·have HN2:Hid _:=HN1.out (fun h=>h.elim hne (fun h=>(fun h=>dz ((pt_eq _ _).1 h).2.2) h.2))
        clear HT1 HN1
        go_wp2_with (fail)
        go_region
        go_wp2_with (fail)
        go_roundg (Ls.length - (k + 1))
        case measure=>have:=HG.out;omega
        case rel=>exact ⟨k + 1,by go_num,by omega,rfl,HN2,HB.out.drew⟩
      ·have HN2:Hid _:=HN1.out (fun h=>h.elim hne (fun h=>(fun h=>dy ((pt_eq _ _).1 h).2.1) h.2))
       clear HT1 HN1
       go_wp2_with (fail)
       go_region
       go_wp2_with (fail)
       go_roundg (Ls.length - (k + 1))
       case measure=>have:=HG.out;omega
       case rel=>exact ⟨k + 1,by go_num,by omega,rfl,HN2,HB.out.drew⟩
     ·have HN2:Hid _:=HN1.out (fun h=>h.elim hne (fun h=>(fun h=>dx ((pt_eq _ _).1 h).1) h.2))
      clear HT1 HN1
      go_wp2_with (fail)
      go_region
      go_wp2_with (fail)
      go_roundg (Ls.length - (k + 1))
      case measure=>have:=HG.out;omega
      case rel=>exact ⟨k + 1,by go_num,by omega,rfl,HN2,HB.out.drew⟩
  ·have e:R = false:=HE.out (fun j hj=>HA.out j (by omega))
   subst e
   go_wp2_with (fail)
   go_ret
   exact ⟨rfl,b_step hB.out HB.out⟩
end
section
open Go.RowKit Go.Shelf
theorem fold_low (n a:Pt):∀ (L:List Pt) (s:Int),(L.foldl (fun s p=>minI s (n.dot (p.sub a))) s < 0) ↔ (s < 0 \/ ∃ p ∈ L,n.dot (p.sub a) < 0)
 | [],s=>by simp
 | p :: r,s=>by
  rw [List.foldl_cons,fold_low n a r]
  have:minI s (n.dot (p.sub a)) < 0 ↔ (s < 0 \/ n.dot (p.sub a) < 0):=by unfold minI;split <;> omega
  rw [this]
  simp only [List.mem_cons,exists_eq_or_imp,or_assoc]
theorem fold_high (n a:Pt):∀ (L:List Pt) (s:Int),(0 < L.foldl (fun s p=>maxI s (n.dot (p.sub a))) s) ↔ (0 < s \/ ∃ p ∈ L,0 < n.dot (p.sub a))
 | [],s=>by simp
 | p :: r,s=>by
  rw [List.foldl_cons,fold_high n a r]
  have:0 < maxI s (n.dot (p.sub a)) ↔ (0 < s \/ 0 < n.dot (p.sub a)):=by unfold maxI;split <;> omega
  rw [this]
  simp only [List.mem_cons,exists_eq_or_imp,or_assoc]
theorem side_is (L:List Pt) (n a:Pt):sideZ L n a = if above L n a = true then (if below L n a = true then 0 else -1) else 1:=by
 have h1:=fold_high n a L 0
 have h2:=fold_low n a L 0
 have e1:above L n a = true ↔ ∃ p ∈ L,0 < n.dot (p.sub a):=by unfold above;simp
 have e2:below L n a = true ↔ ∃ p ∈ L,n.dot (p.sub a) < 0:=by unfold below;simp
 unfold sideZ lowD highD
 rw [List.take_length]
 simp only [e1,e2]
 by_cases a1:∃ p ∈ L,0 < n.dot (p.sub a)
 ·have:=h1.2 (Or.inr a1)
  rw [if_pos a1,if_neg (by omega)]
  by_cases a2:∃ p ∈ L,n.dot (p.sub a) < 0
  ·have:=h2.2 (Or.inr a2)
   rw [if_pos a2,if_neg (by omega)]
  ·have h3:¬ L.foldl (fun s p=>minI s (n.dot (p.sub a))) 0 < 0:=fun h=>(h2.1 h).elim (fun h=>by omega) a2
   rw [if_neg a2,if_pos (by omega)]
 ·have h3:¬ 0 < L.foldl (fun s p=>maxI s (n.dot (p.sub a))) 0:=fun h=>(h1.1 h).elim (fun h=>by omega) a1
  rw [if_neg a1,if_pos (by omega)]
def withQ (E:List Pt) (q:Pt):List Pt:=if q ∈ E \/ q.neg ∈ E then E else E ++ [q]
theorem tri_skip {L:List Pt} {a b c:Pt} {s:List Pt × List Pt} (h:(b.sub a).cross (c.sub a) = Pt.O \/ sideZ L ((b.sub a).cross (c.sub a)) a = 0):triP L a b c s = s:=by
 unfold triP
 dsimp only
 rw [if_pos]
 rcases h with h | h
 ·exact Or.inl h
 ·right
  rw [side_is] at h
  split at h
  ·rename_i h1
   split at h
   ·rename_i h2;exact ⟨h1,h2⟩
   ·omega
  ·omega
def outP (sd:Int) (n:Pt):Pt:=if sd = 1 then n else n.neg
theorem tri_does {L:List Pt} {a b c:Pt} {A E:List Pt} (h:¬ ((b.sub a).cross (c.sub a) = Pt.O \/ sideZ L ((b.sub a).cross (c.sub a)) a = 0)) :
  triP L a b c (A,E) = (withAxisP A (outP (sideZ L ((b.sub a).cross (c.sub a)) a) ((b.sub a).cross (c.sub a))).short,withQ (withQ (withQ E (b.sub a).short) (c.sub a).short) (c.sub b).short)/\(sideZ L ((b.sub a).cross (c.sub a)) a = 1 \/ sideZ L ((b.sub a).cross (c.sub a)) a = -1):=by
 rw [not_or] at h
 generalize hn:(b.sub a).cross (c.sub a) = n at *
 have hs:=side_is L n a
 unfold triP outP
 dsimp only
 rw [hn]
 by_cases h1:above L n a = true
 ·rw [if_pos h1] at hs
  by_cases h2:below L n a = true
  ·rw [if_pos h2] at hs;exact absurd hs h.2
  ·rw [if_neg h2] at hs
   rw [if_neg (fun k=>k.elim h.1 (fun k=>h2 k.2)),hs,if_pos h1,if_neg (by decide)]
   exact ⟨rfl,Or.inr rfl⟩
 ·rw [if_neg h1] at hs
  rw [if_neg (fun k=>k.elim h.1 (fun k=>h1 k.1)),hs,if_neg h1,if_pos rfl]
  exact ⟨rfl,Or.inl rfl⟩
theorem beq_eq_decide (a b:Int):(a == b) = decide (a = b):=by by_cases h:a = b <;> simp [h]
theorem dec_or (a b:Bool):(a || (true && b)) = (a || b):=by cases a <;> cases b <;> rfl
theorem dec_or0 (a b:Bool):(a || (false && b)) = a:=by cases a <;> cases b <;> rfl
theorem rhull_any (v:Value) (Ls:List Pt) (w0:World) (hv:Lies w0 v Ls) (h0:0 < Ls.length) (hl:Ls.length <= 12) (hin:∀ p ∈ Ls,p.inB 65536 = true) :
  Calls Tryz.prog 92 #[v] w0 fun e W=>∃ va ve,e = .returned (.tuple #[va,ve])/\Two w0 W va ve (sidesP Ls).1 (sidesP Ls).2 []:=by
 obtain ⟨o,c,rfl,hlc,hcm,hcell⟩:=hv.form
 have HV:Hid _:=hv
 have HC:Hid _:=hcell
 have HIN:Hid _:=hin
 obtain ⟨g,off,rfl,_,_,_⟩:=hcell 0 (by omega)
 clear hv hcell hin
 obtain ⟨Rz,hR⟩:∃ R,sidesP Ls = R:=⟨_,rfl⟩
 rw [hR]
 have HR:Hid (outerP Ls (Ls.drop 0) ([],[]) = Rz):=hR
 clear hR
 obtain ⟨i0,hii,hiz,hisz,hib⟩:=info_parts point_info
 have HI:Hid _:=And.intro hii (And.intro hiz (And.intro hisz hib))
 clear hii hiz hisz hib
 go_enter Tryz.func92,Tryz.ntmps92
 go_wp2_with (fail)
 go_loopg [4,5,6] Ls.length (fun gm s4 s5 s6 wr=>∃ (i:Nat) (A E:List Pt) (oa oe:Option Addr) (ca ce:Nat),s4 = .slice oa A.length ca/\s5 = .slice oe E.length ce/\s6 = .int .i64 (i:Int)/\i <= Ls.length/\gm = Ls.length - i/\A.length <= 144 * i/\E.length <= 432 * i/\Hid (outerP Ls (Ls.drop i) (A,E) = Rz)/\Hid (Two w0 wr (.slice oa A.length ca) (.slice oe E.length ce) A E []))
 case atStart=>exact ⟨0,[],[],none,none,0,0,rfl,rfl,rfl,Nat.zero_le _,rfl,Nat.zero_le _,Nat.zero_le _,HR,Two.start w0⟩
 case round =>
  clear HR
  obtain ⟨i,A,E,oa,oe,ca,ce,rfl,rfl,rfl,hi,hgm,hA,hE,HD,HT⟩:=hrel
  have HG1:Hid _:=hgm
  clear hgm
  by_cases hlt:i < Ls.length
  ·have hain:=HIN.out _ (pt_mem hlt)
   have HXA:Hid _:=HC.out i hlt
   have HD:Hid (outerP Ls (Ls.drop (i + 1)) (midP Ls (pt Ls i) (Ls.drop (i + 1)) (A,E)) = Rz):=by show _ = _;rw [<- HD.out,drop_pt hlt];rfl
   generalize pt Ls i = pa at *
   go_wp2_with (fail)
   go_loopg [4,5,7] (Ls.length - (i + 1)) (fun gm s4 s5 s7 wx=>∃ (j:Nat) (A E:List Pt) (oa oe:Option Addr) (ca ce:Nat),s4 = .slice oa A.length ca/\s5 = .slice oe E.length ce/\s7 = .int .i64 (j:Int)/\i + 1 <= j/\j <= Ls.length/\gm = Ls.length - j/\A.length <= 144 * i + 12 * j/\E.length <= 432 * i + 36 * j/\Hid (outerP Ls (Ls.drop (i + 1)) (midP Ls pa (Ls.drop j) (A,E)) = Rz)/\Hid (Two w0 wx (.slice oa A.length ca) (.slice oe E.length ce) A E []))
   case atStart=>exact ⟨i + 1,A,E,oa,oe,ca,ce,rfl,rfl,by go_num,Nat.le_refl _,by omega,rfl,by omega,by omega,HD,HT⟩
   case round =>
    clear HD HT hA hE
    obtain ⟨jq,A,E,oa,oe,ca,ce,rfl,rfl,rfl,hij,hj,hgm,hA,hE,HD,HT⟩:=hrel
    have HG2:Hid _:=hgm
    clear hgm
    by_cases hjt:jq < Ls.length
    ·have hbin:=HIN.out _ (pt_mem hjt)
     have HXB:Hid _:=HC.out jq hjt
     have HD:Hid (outerP Ls (Ls.drop (i + 1)) (midP Ls pa (Ls.drop (jq + 1)) (innerP Ls pa (pt Ls jq) (Ls.drop (jq + 1)) (A,E))) = Rz):=by show _ = _;rw [<- HD.out,drop_pt hjt];rfl
     generalize pt Ls jq = pb at *
     go_wp2_with (fail)
     go_loopg [4,5,8] (Ls.length - (jq + 1)) (fun gm s4 s5 s8 wy=>∃ (k:Nat) (A E:List Pt) (oa oe:Option Addr) (ca ce:Nat),s4 = .slice oa A.length ca/\s5 = .slice oe E.length ce/\s8 = .int .i64 (k:Int)/\jq + 1 <= k/\k <= Ls.length/\gm = Ls.length - k/\A.length <= 144 * i + 12 * jq + k/\E.length <= 432 * i + 36 * jq + 3 * k/\Hid (outerP Ls (Ls.drop (i + 1)) (midP Ls pa (Ls.drop (jq + 1)) (innerP Ls pa pb (Ls.drop k) (A,E))) = Rz)/\Hid (Two w0 wy (.slice oa A.length ca) (.slice oe E.length ce) A E []))
     case atStart=>exact ⟨jq + 1,A,E,oa,oe,ca,ce,rfl,rfl,by go_num,Nat.le_refl _,by omega,rfl,by omega,by omega,HD,HT⟩
     case round =>
      clear HD HT hA hE
      obtain ⟨kk,A,E,oa,oe,ca,ce,rfl,rfl,rfl,hjk,hk,hgm,hA,hE,HD,HT⟩:=hrel
      have HG3:Hid _:=hgm
      clear hgm
      by_cases hkt:kk < Ls.length
      ·have hcin:=HIN.out _ (pt_mem hkt)
       have HXC:Hid _:=HC.out kk hkt
       have HD:Hid (outerP Ls (Ls.drop (i + 1)) (midP Ls pa (Ls.drop (jq + 1)) (innerP Ls pa pb (Ls.drop (kk + 1)) (triP Ls pa pb (pt Ls kk) (A,E)))) = Rz):=by show _ = _;rw [<- HD.out,drop_pt hkt];rfl
       generalize pt Ls kk = pc at *
       obtain ⟨g',off',e',x0,x1,x2⟩:=HXA.out
       cases e'
       obtain ⟨g',off',e',y0,y1,y2⟩:=HXB.out
       cases e'
       obtain ⟨g',off',e',z0,z1,z2⟩:=HXC.out
       cases e'
       have XX:Hid _:=And.intro x0 (And.intro x1 x2)
       have YY:Hid _:=And.intro y0 (And.intro y1 y2)
       have ZZ:Hid _:=And.intro z0 (And.intro z1 z2)
       have x0:=c_after HT.out.below x0
       have x1:=c_after HT.out.below x1
       have x2:=c_after HT.out.below x2
       have y0:=c_after HT.out.below y0
       have y1:=c_after HT.out.below y1
       have y2:=c_after HT.out.below y2
       have z0:=c_after HT.out.below z0
       have z1:=c_after HT.out.below z1
       have z2:=c_after HT.out.below z2
       have hnin:=cross_in (sub_in hbin hain) (sub_in hcin hain)
       have L3:Hid _:=fun w'=>normal_any pa pb pc w' hain hbin hcin
       have HS1:Hid _:=@tri_skip Ls pa pb pc (A,E)
       have HS2:Hid _:=@tri_does Ls pa pb pc A E
       generalize hTr:triP Ls pa pb pc (A,E) = Tr at *
       clear hTr
       generalize (pb.sub pa).cross (pc.sub pa) = n at *
       have HSD:Hid _:=fun w' (h:Lies w' (.slice (some ⟨g,off,none⟩) Ls.length c) Ls)=>side_any _ Ls n pa w' h (by omega) HIN.out hain hnin
       generalize sideZ Ls n pa = sd at *
       unfold Pt.v at L3 HSD
       have hiz:(i:Int) < (Ls.length:Int):=by omega
       have hjz:(jq:Int) < (Ls.length:Int):=by omega
       have hkz:(kk:Int) < (Ls.length:Int):=by omega
       go_upto_region 12 with fail
       refine RV.rs [.some (.slice (some ⟨g,off,none⟩) Ls.length c),.some (.int .i64 (i:Int)),.some (.pointer (some ⟨g,off + i * 3,none⟩)),.some (.agg #[.int .i64 pa.x,.int .i64 pa.y,.int .i64 pa.z]),.some (.slice (some ⟨g,off,none⟩) Ls.length c),.some (.int .i64 (jq:Int)),.some (.pointer (some ⟨g,off + jq * 3,none⟩)),.some (.agg #[.int .i64 pb.x,.int .i64 pb.y,.int .i64 pb.z]),.some (.slice (some ⟨g,off,none⟩) Ls.length c),.some (.int .i64 (kk:Int)),.some (.pointer (some ⟨g,off + kk * 3,none⟩)),.some (.agg #[.int .i64 pc.x,.int .i64 pc.y,.int .i64 pc.z]),.some (.agg #[.int .i64 n.x,.int .i64 n.y,.int .i64 n.z]),none,none] [39,40,41,42,43,44,45,46,47,48,49,50,51,10,0] [(0,.slice (some ⟨g,off,none⟩) Ls.length c),(6,.int .i64 (i:Int)),(7,.int .i64 (jq:Int)),(8,.int .i64 (kk:Int))] (fun γ L w=>Below wr.heap.size wr w/\RV.Pend wr 45 13 14 #[.int .i64 n.x,.int .i64 n.y,.int .i64 n.z] γ L w) ⟨rfl,rfl,rfl,rfl,trivial⟩ ?_ ?_ ?_
       ·exact ⟨(Below.refl _ wr).drew,RV.Pend.start rfl⟩
       ·intro D WA Z hD hWA hZ T
        simp only [RV.Outs,RV.Slots,Nat.reduceAdd] at T
        iterate 12 first
         | (refine RV.cc _ (RV.pu T (fun γ v L w hl h=>⟨h.1,h.2.other v (by decide) (by decide)⟩) (fun γ L a w hH hl h9 k9=>⟨_,?_,rfl⟩)) ?_;· simp [execOp,go_sem,h9])
         | (refine RV.cc _ (RV.pu T (fun γ v L w hl h=>⟨h.1,h.2.other v (by decide) (by decide)⟩) (fun γ L a w hH hl h9 k9=>⟨_,?_,rfl⟩)) ?_;· simp [Region.binds] at k9;simp [execOp,go_sem,h9,k9,hiz,hjz,hkz])
         | (refine RV.cc _ (RV.pu T (fun γ v L w hl h=>⟨h.1,h.2.other v (by decide) (by decide)⟩) (fun γ L a w hH hl h9 k9=>⟨_,?_,rfl⟩)) ?_;· have v0:=c_after hH.glob.1 x0;have v1:=c_after hH.glob.1 x1;have v2:=c_after hH.glob.1 x2;simp [Region.binds] at k9;simp [execOp,go_sem,h9,k9,v0,v1,v2])
         | (refine RV.cc _ (RV.pu T (fun γ v L w hl h=>⟨h.1,h.2.other v (by decide) (by decide)⟩) (fun γ L a w hH hl h9 k9=>⟨_,?_,rfl⟩)) ?_;· have v0:=c_after hH.glob.1 y0;have v1:=c_after hH.glob.1 y1;have v2:=c_after hH.glob.1 y2;simp [Region.binds] at k9;simp [execOp,go_sem,h9,k9,v0,v1,v2])
         | (refine RV.cc _ (RV.pu T (fun γ v L w hl h=>⟨h.1,h.2.other v (by decide) (by decide)⟩) (fun γ L a w hH hl h9 k9=>⟨_,?_,rfl⟩)) ?_;· have v0:=c_after hH.glob.1 z0;have v1:=c_after hH.glob.1 z1;have v2:=c_after hH.glob.1 z2;simp [Region.binds] at k9;simp [execOp,go_sem,h9,k9,v0,v1,v2])
        refine RV.cc _ (RV.dc (fun γ L a w hH hl hA=>by have h9:=T γ L a w hH;have k9:=hA;simp [Region.binds] at k9;exact ⟨129,#[.agg #[.int .i64 pa.x,.int .i64 pa.y,.int .i64 pa.z],.agg #[.int .i64 pb.x,.int .i64 pb.y,.int .i64 pb.z],.agg #[.int .i64 pc.x,.int .i64 pc.y,.int .i64 pc.z]],by simp [go_sem,h9,k9],Calls.mono (L3.out w) (by rintro e w2 ⟨rfl,hb⟩;exact ⟨_,rfl,rfl,fun j v _ h=>h.keep _,hH.glob.1.trans (hb.mono hH.glob.1.size),(hH.glob.2.below hb).other _ (by decide) (by decide)⟩)⟩)) ?_
        refine RV.cc _ (RV.does_step (fun γ L a w hH hl hA=>by have h10:L 14 = false:=RV.ny hH (RV.wt (j:=14) (i:=13) hWA (by kernel_rfl)) hl;exact ⟨.pointer (some ⟨w.heap.size,0,none⟩),w.alloc (.cells #[.int .i64 0,.int .i64 0,.int .i64 0] 45),by simp [execOp,go_sem],trivial,fun j v _ h=>h.keep _,hH.glob.1.alloc hH.glob.1.size _,RV.Pend.made _ rfl hH.glob.1.size h10 (by decide)⟩)) ?_
        refine RV.cc _ (RV.does_store (fun γ L a w hH hl hA=>by have h9:=T γ L a w hH;have k9:=hA;simp [Region.binds] at k9;have l0:L 13 = true:=hA ⟨13,.data⟩ (by simp) rfl;have e0:=hH.slot 13 9 (by rw [<- hD];rfl) l0;obtain ⟨b,cs,hb1,hb2,hb3,hb4,_⟩:=hH.glob.2 l0;rw [hb1] at e0;obtain ⟨u0,u1,u2,rfl⟩:=arr3 hb4;have z09:w.cell? ⟨b,0,none⟩ = some u0:=(by simp [World.cell?,hb3]);have z19:w.cell? ⟨b,1,none⟩ = some u1:=(by simp [World.cell?,hb3]);have z29:w.cell? ⟨b,2,none⟩ = some u2:=(by simp [World.cell?,hb3]);have zf:∀ o,w.frozen? ⟨b,o,none⟩ = false:=fun o=>(by simp [World.frozen?,hb3]);exact ⟨(((w.setCell ⟨b,0,none⟩ (.int .i64 n.x)).setCell ⟨b,1,none⟩ (.int .i64 n.y)).setCell ⟨b,2,none⟩ (.int .i64 n.z)),by simp [execOp,go_sem,e0,z09,z19,z29,zf,h9,k9],trivial,fun j v _ h=>h.keep _,((hH.glob.1.setCell hb2 _).setCell hb2 _).setCell hb2 _,RV.Pend.filled hb1 hb2 (by have q0:=Go.heap_setCell_same w b 0 _ _ (.int .i64 n.x) hb3;have q1:=Go.heap_setCell_same _ b 1 _ _ (.int .i64 n.y) q0;have q2:=Go.heap_setCell_same _ b 2 _ _ (.int .i64 n.z) q1;simpa using q2) (by decide) _⟩)) ?_
        exact RV.AllDo.nil
       ·intro γ w5 L9 hL hI9 hG9
        obtain ⟨bn,cs,hb1,hb2,hb3,_,hb5⟩:=hG9.2 (hL 13 (by decide))
        rw [hb5 (hL 14 (by decide))] at hb3
        have hB5:=hG9.1
        clear hL hb5 hI9 hG9
        simp only [RV.putL,Act.put,List.setIfInBounds_toArray,List.set_cons_zero,List.set_cons_succ,Nat.reduceAdd]
        rw [hb1]
        obtain ⟨W5,hW5⟩:∃ X:World,X = w5:=⟨_,rfl⟩
        rw [<- hW5] at hB5 hb3 ⊢
        have BN:Hid (Box3 W5 bn n):=⟨by simp [World.cell?,hb3],by simp [World.cell?,hb3],by simp [World.cell?,hb3],by simp [World.frozen?,hb3],by simp [World.frozen?,hb3],by simp [World.frozen?,hb3]⟩
        have HT:Hid _:=HT.out.step hB5
        clear hW5 hb1 hb2 hb3 hB5 L3 x0 x1 x2 y0 y1 y2 z0 z1 z2
        have x0:=c_after HT.out.below XX.out.1
        have x1:=c_after HT.out.below XX.out.2.1
        have x2:=c_after HT.out.below XX.out.2.2
        obtain ⟨q0,q1,q2,_,_,_⟩:=BN.out
        go_upto_region 13 with fail
        refine RV.rs [.some (.slice (some ⟨g,off,none⟩) Ls.length c),.some (.agg #[.int .i64 n.x,.int .i64 n.y,.int .i64 n.z]),.some (.slice (some ⟨g,off,none⟩) Ls.length c),.some (.int .i64 ((i:Int))),.some (.pointer (some ⟨g,off + i * 3,none⟩)),.some (.agg #[.int .i64 pa.x,.int .i64 pa.y,.int .i64 pa.z]),.some (.int .i64 sd),.some (.int .i64 sd)] [52,53,54,55,56,57,58,11] [(0,.slice (some ⟨g,off,none⟩) Ls.length c),(6,.int .i64 ((i:Int))),(9,.pointer (some ⟨bn,0,none⟩))] (fun γ L w9=>Below W5.heap.size W5 w9) ⟨rfl,rfl,rfl,trivial⟩ ?_ ?_ ?_
        ·exact (Below.refl _ W5).drew
        ·intro D WA Z hD hWA hZ T
         simp only [RV.Outs,RV.Slots,Nat.reduceAdd] at T
         iterate 6 first
          | (refine RV.cc _ (RV.pu T (fun γ v L w hl h=>h) (fun γ L a w hH hl h9 k9=>⟨_,?_,rfl⟩)) ?_;· simp [execOp,go_sem,h9])
          | (refine RV.cc _ (RV.pu T (fun γ v L w hl h=>h) (fun γ L a w hH hl h9 k9=>⟨_,?_,rfl⟩)) ?_;· simp [Region.binds] at k9;simp [execOp,go_sem,h9,k9,hiz])
          | (refine RV.cc _ (RV.pu T (fun γ v L w hl h=>h) (fun γ L a w hH hl h9 k9=>⟨_,?_,rfl⟩)) ?_;· have hB9:=hH.glob;have v0:=c_after hB9 x0;have v1:=c_after hB9 x1;have v2:=c_after hB9 x2;simp [Region.binds] at k9;simp [execOp,go_sem,h9,k9,v0,v1,v2])
          | (refine RV.cc _ (RV.pu T (fun γ v L w hl h=>h) (fun γ L a w hH hl h9 k9=>⟨_,?_,rfl⟩)) ?_;· have hB9:=hH.glob;have q0:=c_after hB9 q0;have q1:=c_after hB9 q1;have q2:=c_after hB9 q2;simp [execOp,go_sem,h9,q0,q1,q2])
         refine RV.cc _ (RV.dc (fun γ L a w hH hl hA=>by have h9:=T γ L a w hH;have k9:=hA;simp [Region.binds] at k9;have hB9:=hH.glob;exact ⟨130,#[.slice (some ⟨g,off,none⟩) Ls.length c,.agg #[.int .i64 n.x,.int .i64 n.y,.int .i64 n.z],.agg #[.int .i64 pa.x,.int .i64 pa.y,.int .i64 pa.z]],by simp [go_sem,h9,k9],Calls.mono (HSD.out w ((HV.out.below HT.out.below).below hB9)) (by rintro e w2 ⟨rfl,hb⟩;exact ⟨_,rfl,rfl,fun j v _ h=>h.keep _,hB9.trans (hb.mono hB9.size)⟩)⟩)) ?_
         (refine RV.cc _ (RV.pu T (fun γ v L w hl h=>h) (fun γ L a w hH hl h9 k9=>⟨_,?_,rfl⟩)) ?_;· simp [Region.binds] at k9;simp [execOp,go_sem,h9,k9])
         exact RV.AllDo.nil
        ·intro γ w5 L9 hL hI9 hG9
         have hb8:=hG9
         clear hL hI9 hG9
         simp only [RV.putL,Act.put,List.setIfInBounds_toArray,List.set_cons_zero,List.set_cons_succ]
         have HT:Hid _:=HT.out.step hb8
         have BN:Hid _:=BN.out.step hb8
         clear hb8 q0 q1 q2 x0 x1 x2 HSD
         obtain ⟨W6,hW6⟩:∃ X:World,X = w5:=⟨_,rfl⟩
         rw [<- hW6] at HT BN ⊢
         clear hW6
         obtain ⟨q0,q1,q2,_,_,_⟩:=BN.out
         go_upto_region 14 with fail
         go_cut [64] from 32 to 137 (fun s64 wc=>s64 = .bool (decide (n = Pt.O \/ sd = 0))/\wc = W6)
         case first =>
          by_cases ex:n.x = 0
          ·by_cases ey:n.y = 0
           ·by_cases ez:n.z = 0
            ·go_wp2_with (fail)
             go_meet
             case rel=>exact ⟨by simp [pt_eq,Pt.O,ex,ey,ez],rfl⟩
            ·have e1:(n.z == 0) = false:=beq_eq_false_iff_ne.2 ez
             go_wp2_with (fail)
             go_meet
             case rel=>exact ⟨by simp [pt_eq,Pt.O,ez];exact beq_eq_decide sd 0,rfl⟩
           ·have e1:(n.y == 0) = false:=beq_eq_false_iff_ne.2 ey
            go_wp2_with (fail)
            go_meet
            case rel=>exact ⟨by simp [pt_eq,Pt.O,ey];exact beq_eq_decide sd 0,rfl⟩
          ·have e1:(n.x == 0) = false:=beq_eq_false_iff_ne.2 ex
           go_wp2_with (fail)
           go_meet
           case rel=>exact ⟨by simp [pt_eq,Pt.O,ex];exact beq_eq_decide sd 0,rfl⟩
         case rest =>
          obtain ⟨rfl,hwc⟩:=hcut
          subst hwc
          clear q0 q1 q2
          by_cases hno:n = Pt.O \/ sd = 0
          ·have e:Tr = (A,E):=HS1.out hno
           rw [decide_eq_true hno]
           subst e
           clear HS1 HS2 hno
           go_wp2_with (fail)
           go_roundg (Ls.length - (kk + 1))
           case measure=>have:=HG3.out;omega
           case rel=>exact ⟨kk + 1,A,E,oa,oe,ca,ce,rfl,rfl,by go_num,by omega,by omega,rfl,by omega,by omega,HD,HT⟩
          ·obtain ⟨e,hsd⟩:=HS2.out hno
           rw [decide_eq_false hno]
           subst e
           clear HS1 HS2 hno
           go_upto_region 15 with fail
           go_cut [11] from 32 to 137 (fun s11 wx=>∃ b:Nat,s11 = .pointer (some ⟨b,0,none⟩)/\Hid (Box3 wx b (outP sd n).short)/\Hid (Two w0 wx (.slice oa A.length ca) (.slice oe E.length ce) A E []))
           case first =>
            obtain ⟨q0,q1,q2,_,_,_⟩:=BN.out
            have nb:=(Pt.inB_iff _ _).1 hnin
            rcases hsd with rfl | rfl
            ·go_wp2_with (fail)
             refine Calls.mono (rshort_any n _) ?_
             rintro e W7 ⟨rfl,hb⟩
             have HT:Hid _:=(HT.out.step hb).step (n_after _ (.cells #[.int .i64 n.short.x,.int .i64 n.short.y,.int .i64 n.short.z] 45))
             clear hb
             unfold Pt.v
             go_wp2_with (fail)
             go_meet
             case rel=>exact ⟨_,rfl,Box3.new W7 n.short.x n.short.y n.short.z _,HT⟩
            ·have m1:IntKind.i64.wrap (-1 * n.x) = -n.x:=by rw [IntKind.wrap_i64];omega
             have m2:IntKind.i64.wrap (-1 * n.y) = -n.y:=by rw [IntKind.wrap_i64];omega
             have m3:IntKind.i64.wrap (-1 * n.z) = -n.z:=by rw [IntKind.wrap_i64];omega
             have m4:IntKind.i64.wrap (-n.x) = -n.x:=by rw [IntKind.wrap_i64];omega
             have m5:IntKind.i64.wrap (-n.y) = -n.y:=by rw [IntKind.wrap_i64];omega
             have m6:IntKind.i64.wrap (-n.z) = -n.z:=by rw [IntKind.wrap_i64];omega
             go_wp2_with (fail)
             refine Calls.mono (rshort_any n.neg _) ?_
             rintro e W7 ⟨rfl,hb⟩
             have HT:Hid _:=(HT.out.step hb).step (n_after _ (.cells #[.int .i64 n.neg.short.x,.int .i64 n.neg.short.y,.int .i64 n.neg.short.z] 45))
             clear hb
             unfold Pt.v
             go_wp2_with (fail)
             go_meet
             case rel=>exact ⟨_,rfl,Box3.new W7 n.neg.short.x n.neg.short.y n.neg.short.z _,HT⟩
           case rest =>
            clear HT BN
            obtain ⟨ba,rfl,BA,HT⟩:=hcut
            have hn3:=inB_mono (short_in (outP sd n)) (show (1048576:Int) <= 1152921504606846976 by decide)
            generalize (outP sd n).short = n3 at *
            obtain ⟨q0,q1,q2,_,_,_⟩:=BA.out
            have hAs:A.length <= 1000000:=by omega
            have HH:Hid _:=has_any _ A n3 false wc (Lies.of_row HT.out.ra) hAs hn3
            rw [dec_or0] at HH
            unfold Pt.v at HH
            go_wp2_with (fail)
            refine Calls.mono HH.out ?_
            clear HH
            rintro e W8 ⟨rfl,hb⟩
            have HT:Hid _:=HT.out.step hb
            have BA:Hid _:=BA.out.step hb
            clear hb q0 q1 q2
            go_upto_if 83 with fail
            go_cut [4,12] from 32 to 137 (fun s4 s12 wx=>∃ (oa':Option Addr) (ca':Nat),s4 = .slice oa' (withAxisP A n3).length ca'/\Hid (Two w0 wx (.slice oa' (withAxisP A n3).length ca') (.slice oe E.length ce) (withAxisP A n3) E []))
            case first =>
             by_cases hm:n3 ∈ A
             ·have hw:withAxisP A n3 = A:=by unfold withAxisP;rw [if_pos hm]
              rw [decide_eq_true hm]
              have HW:Hid _:=hw
              clear hm hw
              go_wp2_with (fail)
              go_meet
              case rel=>exact ⟨oa,ca,by rw [HW.out],by rw [HW.out];exact HT⟩
             ·have hw:withAxisP A n3 = A ++ [n3]:=by unfold withAxisP;rw [if_neg hm]
              rw [decide_eq_false hm]
              have HW:Hid _:=hw
              clear hm hw
              obtain ⟨q0,q1,q2,_,_,_⟩:=BA.out
              have hsz:=HT.out.below.size
              go_wp2_with (at_builtin;refine wpList_append_own_at _ rfl _ _ 26 rfl w0.heap.size 45 i0 _ 3 24 Tryz.underlying26 HI.out.1 HI.out.2.1 HI.out.2.2.1 HI.out.2.2.2 rfl (by decide) _ _ _ rfl (own_below HT.out.ra (n_after W8 _)) ⟨W8.heap.size,0,none⟩ 1 1 [.int .i64 n3.x,.int .i64 n3.y,.int .i64 n3.z] rfl rfl (news_at (heap_alloc_new W8 _)) (by intro u hu;simp at hu;rcases hu with rfl | rfl | rfl <;> rfl) (by unfold maxLen;omega) (by omega) (by simp;omega) ?_;intro u9 V2 r8 g8 _ s8)
              have hrow:V2.ownsRow w0.heap.size 45 3 u9 (A ++ [n3]).length (fl3 (A ++ [n3])):=by rw [fl3_append,List.length_append];exact r8
              have HT2:=(HT.out.step (n_after W8 (.cells #[.int .i64 n3.x,.int .i64 n3.y,.int .i64 n3.z] 45))).axis hrow ⟨g8,by rcases s8 with e | e;exact Or.inl e;exact Or.inr ⟨_,e,Nat.le_refl _⟩⟩
              obtain ⟨o9,c9,rfl,_⟩:=(Lies.of_row hrow).form
              go_meet
              case rel=>exact ⟨o9,c9,by rw [HW.out],by rw [HW.out];exact HT2⟩
            case rest =>
             clear HT BA
             obtain ⟨oa',ca',rfl,HT⟩:=hcut
             have hA':=axis_len A n3
             generalize withAxisP A n3 = A' at *
             go_upto_region 19 with fail
             have L1:Hid _:=fun w'=>minus_any pb pa w' (inB_mono hbin (by decide)) (inB_mono hain (by decide))
             have L2:Hid _:=fun w'=>minus_any pc pa w' (inB_mono hcin (by decide)) (inB_mono hain (by decide))
             have L3:Hid _:=fun w'=>minus_any pc pb w' (inB_mono hcin (by decide)) (inB_mono hbin (by decide))
             have M1:Hid _:=fun w'=>rshort_any (pb.sub pa) w'
             have M2:Hid _:=fun w'=>rshort_any (pc.sub pa) w'
             have M3:Hid _:=fun w'=>rshort_any (pc.sub pb) w'
             unfold Pt.v at L1 L2 L3 M1 M2 M3
             have x0:=c_after HT.out.below XX.out.1
             have x1:=c_after HT.out.below XX.out.2.1
             have x2:=c_after HT.out.below XX.out.2.2
             have y0:=c_after HT.out.below YY.out.1
             have y1:=c_after HT.out.below YY.out.2.1
             have y2:=c_after HT.out.below YY.out.2.2
             have z0:=c_after HT.out.below ZZ.out.1
             have z1:=c_after HT.out.below ZZ.out.2.1
             have z2:=c_after HT.out.below ZZ.out.2.2
             obtain ⟨Wx,hWx⟩:∃ X:World,X = wc:=⟨_,rfl⟩
             rw [<- hWx] at HT x0 x1 x2 y0 y1 y2 z0 z1 z2 ⊢
             clear hWx
             refine RV.region_by (fun j v w=>match j with | 0=>v = .slice (some ⟨g,off,none⟩) Ls.length c | 1=>v = .int .i64 (jq:Int) | 2=>v = .pointer (some ⟨g,off + jq * 3,none⟩) | 3=>v = .agg #[.int .i64 pb.x,.int .i64 pb.y,.int .i64 pb.z] | 4=>v = .slice (some ⟨g,off,none⟩) Ls.length c | 5=>v = .int .i64 (i:Int) | 6=>v = .pointer (some ⟨g,off + i * 3,none⟩) | 7=>v = .agg #[.int .i64 pa.x,.int .i64 pa.y,.int .i64 pa.z] | 8=>v = .agg #[.int .i64 ((pb.sub pa)).x,.int .i64 ((pb.sub pa)).y,.int .i64 ((pb.sub pa)).z] | 9=>v = .agg #[.int .i64 ((pb.sub pa).short).x,.int .i64 ((pb.sub pa).short).y,.int .i64 ((pb.sub pa).short).z] | 10=>v = .slice (some ⟨g,off,none⟩) Ls.length c | 11=>v = .int .i64 (kk:Int) | 12=>v = .pointer (some ⟨g,off + kk * 3,none⟩) | 13=>v = .agg #[.int .i64 pc.x,.int .i64 pc.y,.int .i64 pc.z] | 14=>v = .slice (some ⟨g,off,none⟩) Ls.length c | 15=>v = .int .i64 (i:Int) | 16=>v = .pointer (some ⟨g,off + i * 3,none⟩) | 17=>v = .agg #[.int .i64 pa.x,.int .i64 pa.y,.int .i64 pa.z] | 18=>v = .agg #[.int .i64 ((pc.sub pa)).x,.int .i64 ((pc.sub pa)).y,.int .i64 ((pc.sub pa)).z] | 19=>v = .agg #[.int .i64 ((pc.sub pa).short).x,.int .i64 ((pc.sub pa).short).y,.int .i64 ((pc.sub pa).short).z] | 20=>v = .slice (some ⟨g,off,none⟩) Ls.length c | 21=>v = .int .i64 (kk:Int) | 22=>v = .pointer (some ⟨g,off + kk * 3,none⟩) | 23=>v = .agg #[.int .i64 pc.x,.int .i64 pc.y,.int .i64 pc.z] | 24=>v = .slice (some ⟨g,off,none⟩) Ls.length c | 25=>v = .int .i64 (jq:Int) | 26=>v = .pointer (some ⟨g,off + jq * 3,none⟩) | 27=>v = .agg #[.int .i64 pb.x,.int .i64 pb.y,.int .i64 pb.z] | 28=>v = .agg #[.int .i64 ((pc.sub pb)).x,.int .i64 ((pc.sub pb)).y,.int .i64 ((pc.sub pb)).z] | 29=>v = .agg #[.int .i64 ((pc.sub pb).short).x,.int .i64 ((pc.sub pb).short).y,.int .i64 ((pc.sub pb).short).z] | 30=>(fun v w=>∃ g9,v = .slice (some ⟨g9,0,none⟩) 3 3/\Wx.heap.size <= g9/\g9 < w.heap.size/\At w g9 [(pb.sub pa).short,(pc.sub pa).short,(pc.sub pb).short]) v w | 31=>(fun v w=>∃ g9,v = .slice (some ⟨g9,0,none⟩) 3 3/\Wx.heap.size <= g9/\g9 < w.heap.size/\At w g9 [(pb.sub pa).short,(pc.sub pa).short,(pc.sub pb).short]) v w | _=>True) (fun γ L w=>Below Wx.heap.size Wx w) (by kernel_rfl) (by kernel_rfl) (by kernel_rfl) (by kernel_rfl) ?_ ?_ ?_
             ·exact (Below.refl _ Wx).drew
             ·generalize hD:dstOf _ = D
              generalize hWA:waitsFor _ = WA
              generalize hZ:Act.mk _ _ = Z
              refine RV.AllDo.name ?_
              intro R hR
              have kn:RV.Kn R [.some (.slice (some ⟨g,off,none⟩) Ls.length c),.some (.int .i64 (jq:Int)),.some (.pointer (some ⟨g,off + jq * 3,none⟩)),.some (.agg #[.int .i64 pb.x,.int .i64 pb.y,.int .i64 pb.z]),.some (.slice (some ⟨g,off,none⟩) Ls.length c),.some (.int .i64 (i:Int)),.some (.pointer (some ⟨g,off + i * 3,none⟩)),.some (.agg #[.int .i64 pa.x,.int .i64 pa.y,.int .i64 pa.z]),.some (.agg #[.int .i64 ((pb.sub pa)).x,.int .i64 ((pb.sub pa)).y,.int .i64 ((pb.sub pa)).z]),.some (.agg #[.int .i64 ((pb.sub pa).short).x,.int .i64 ((pb.sub pa).short).y,.int .i64 ((pb.sub pa).short).z]),.some (.slice (some ⟨g,off,none⟩) Ls.length c),.some (.int .i64 (kk:Int)),.some (.pointer (some ⟨g,off + kk * 3,none⟩)),.some (.agg #[.int .i64 pc.x,.int .i64 pc.y,.int .i64 pc.z]),.some (.slice (some ⟨g,off,none⟩) Ls.length c),.some (.int .i64 (i:Int)),.some (.pointer (some ⟨g,off + i * 3,none⟩)),.some (.agg #[.int .i64 pa.x,.int .i64 pa.y,.int .i64 pa.z]),.some (.agg #[.int .i64 ((pc.sub pa)).x,.int .i64 ((pc.sub pa)).y,.int .i64 ((pc.sub pa)).z]),.some (.agg #[.int .i64 ((pc.sub pa).short).x,.int .i64 ((pc.sub pa).short).y,.int .i64 ((pc.sub pa).short).z]),.some (.slice (some ⟨g,off,none⟩) Ls.length c),.some (.int .i64 (kk:Int)),.some (.pointer (some ⟨g,off + kk * 3,none⟩)),.some (.agg #[.int .i64 pc.x,.int .i64 pc.y,.int .i64 pc.z]),.some (.slice (some ⟨g,off,none⟩) Ls.length c),.some (.int .i64 (jq:Int)),.some (.pointer (some ⟨g,off + jq * 3,none⟩)),.some (.agg #[.int .i64 pb.x,.int .i64 pb.y,.int .i64 pb.z]),.some (.agg #[.int .i64 ((pc.sub pb)).x,.int .i64 ((pc.sub pb)).y,.int .i64 ((pc.sub pb)).z]),.some (.agg #[.int .i64 ((pc.sub pb).short).x,.int .i64 ((pc.sub pb).short).y,.int .i64 ((pc.sub pb).short).z]),none,none] 0:=by rw [hR];exact ⟨fun _ _=>Iff.rfl,fun _ _=>Iff.rfl,fun _ _=>Iff.rfl,fun _ _=>Iff.rfl,fun _ _=>Iff.rfl,fun _ _=>Iff.rfl,fun _ _=>Iff.rfl,fun _ _=>Iff.rfl,fun _ _=>Iff.rfl,fun _ _=>Iff.rfl,fun _ _=>Iff.rfl,fun _ _=>Iff.rfl,fun _ _=>Iff.rfl,fun _ _=>Iff.rfl,fun _ _=>Iff.rfl,fun _ _=>Iff.rfl,fun _ _=>Iff.rfl,fun _ _=>Iff.rfl,fun _ _=>Iff.rfl,fun _ _=>Iff.rfl,fun _ _=>Iff.rfl,fun _ _=>Iff.rfl,fun _ _=>Iff.rfl,fun _ _=>Iff.rfl,fun _ _=>Iff.rfl,fun _ _=>Iff.rfl,fun _ _=>Iff.rfl,fun _ _=>Iff.rfl,fun _ _=>Iff.rfl,fun _ _=>Iff.rfl,trivial⟩
              have T:=RV.kfacts [89,90,91,92,93,94,95,96,97,98,99,100,101,102,103,104,105,106,107,108,109,110,111,112,113,114,115,116,117,118,119,14] [(0,.slice (some ⟨g,off,none⟩) Ls.length c),(6,.int .i64 (i:Int)),(7,.int .i64 (jq:Int)),(8,.int .i64 (kk:Int))] hD hZ kn ⟨rfl,rfl,rfl,rfl,trivial⟩ (by kernel_rfl) (by kernel_rfl)
              simp only [RV.Outs,RV.Slots,Nat.reduceAdd] at T
              have r30:∀ v w,R 30 v w = ((fun v w=>∃ g9,v = .slice (some ⟨g9,0,none⟩) 3 3/\Wx.heap.size <= g9/\g9 < w.heap.size/\At w g9 [(pb.sub pa).short,(pc.sub pa).short,(pc.sub pb).short]) v w):=fun v w=>by rw [hR];rfl
              have r31:∀ v w,R 31 v w = ((fun v w=>∃ g9,v = .slice (some ⟨g9,0,none⟩) 3 3/\Wx.heap.size <= g9/\g9 < w.heap.size/\At w g9 [(pb.sub pa).short,(pc.sub pa).short,(pc.sub pb).short]) v w):=fun v w=>by rw [hR];rfl
              have K:∀ j v w w',Below w.heap.size w w'->R j v w->R j v w':=by
               rw [hR]
               intro j v w w' hb h
               revert h
               dsimp only
               split
               all_goals first | exact id | exact (fun ⟨g9,t1,t2,t3,t4⟩=>⟨g9,t1,t2,Nat.lt_of_lt_of_le t3 hb.size,t4.below hb⟩)
              iterate 8 first
               | (refine RV.cc _ (RV.pk kn T (fun γ v L w hl h=>h) (fun γ L a w hH hl h9 k9=>⟨_,?_,rfl⟩)) ?_;· simp [execOp,go_sem,h9])
               | (refine RV.cc _ (RV.pk kn T (fun γ v L w hl h=>h) (fun γ L a w hH hl h9 k9=>⟨_,?_,rfl⟩)) ?_;· simp [Region.binds] at k9;simp [execOp,go_sem,h9,k9,hjz,hiz])
               | (refine RV.cc _ (RV.pk kn T (fun γ v L w hl h=>h) (fun γ L a w hH hl h9 k9=>⟨_,?_,rfl⟩)) ?_;· have v0:=c_after hH.glob y0;have v1:=c_after hH.glob y1;have v2:=c_after hH.glob y2;simp [Region.binds] at k9;simp [execOp,go_sem,h9,k9,v0,v1,v2])
               | (refine RV.cc _ (RV.pk kn T (fun γ v L w hl h=>h) (fun γ L a w hH hl h9 k9=>⟨_,?_,rfl⟩)) ?_;· have v0:=c_after hH.glob x0;have v1:=c_after hH.glob x1;have v2:=c_after hH.glob x2;simp [Region.binds] at k9;simp [execOp,go_sem,h9,k9,v0,v1,v2])
              refine RV.cc _ (RV.dc (fun γ L a w hH hl hA=>by have h9:=T _ _ γ L a w hH;have k9:=hA;simp [Region.binds] at k9;exact ⟨18,#[.agg #[.int .i64 pb.x,.int .i64 pb.y,.int .i64 pb.z],.agg #[.int .i64 pa.x,.int .i64 pa.y,.int .i64 pa.z]],by simp [go_sem,h9,k9],Calls.mono (L1.out w) (by rintro e w2 ⟨rfl,hb⟩;exact ⟨_,rfl,((kn.at (k:=8) rfl _ _).2 rfl),fun j v _ h=>K j v _ _ hb h,hH.glob.trans (hb.mono hH.glob.size)⟩)⟩)) ?_
              refine RV.cc _ (RV.dc (fun γ L a w hH hl hA=>by have h9:=T _ _ γ L a w hH;have k9:=hA;simp [Region.binds] at k9;exact ⟨88,#[.agg #[.int .i64 ((pb.sub pa)).x,.int .i64 ((pb.sub pa)).y,.int .i64 ((pb.sub pa)).z]],by simp [go_sem,h9,k9],Calls.mono (M1.out w) (by rintro e w2 ⟨rfl,hb⟩;exact ⟨_,rfl,((kn.at (k:=9) rfl _ _).2 rfl),fun j v _ h=>K j v _ _ hb h,hH.glob.trans (hb.mono hH.glob.size)⟩)⟩)) ?_
              iterate 8 first
               | (refine RV.cc _ (RV.pk kn T (fun γ v L w hl h=>h) (fun γ L a w hH hl h9 k9=>⟨_,?_,rfl⟩)) ?_;· simp [execOp,go_sem,h9])
               | (refine RV.cc _ (RV.pk kn T (fun γ v L w hl h=>h) (fun γ L a w hH hl h9 k9=>⟨_,?_,rfl⟩)) ?_;· simp [Region.binds] at k9;simp [execOp,go_sem,h9,k9,hkz,hiz])
               | (refine RV.cc _ (RV.pk kn T (fun γ v L w hl h=>h) (fun γ L a w hH hl h9 k9=>⟨_,?_,rfl⟩)) ?_;· have v0:=c_after hH.glob z0;have v1:=c_after hH.glob z1;have v2:=c_after hH.glob z2;simp [Region.binds] at k9;simp [execOp,go_sem,h9,k9,v0,v1,v2])
               | (refine RV.cc _ (RV.pk kn T (fun γ v L w hl h=>h) (fun γ L a w hH hl h9 k9=>⟨_,?_,rfl⟩)) ?_;· have v0:=c_after hH.glob x0;have v1:=c_after hH.glob x1;have v2:=c_after hH.glob x2;simp [Region.binds] at k9;simp [execOp,go_sem,h9,k9,v0,v1,v2])
              refine RV.cc _ (RV.dc (fun γ L a w hH hl hA=>by have h9:=T _ _ γ L a w hH;have k9:=hA;simp [Region.binds] at k9;exact ⟨18,#[.agg #[.int .i64 pc.x,.int .i64 pc.y,.int .i64 pc.z],.agg #[.int .i64 pa.x,.int .i64 pa.y,.int .i64 pa.z]],by simp [go_sem,h9,k9],Calls.mono (L2.out w) (by rintro e w2 ⟨rfl,hb⟩;exact ⟨_,rfl,((kn.at (k:=18) rfl _ _).2 rfl),fun j v _ h=>K j v _ _ hb h,hH.glob.trans (hb.mono hH.glob.size)⟩)⟩)) ?_
              refine RV.cc _ (RV.dc (fun γ L a w hH hl hA=>by have h9:=T _ _ γ L a w hH;have k9:=hA;simp [Region.binds] at k9;exact ⟨88,#[.agg #[.int .i64 ((pc.sub pa)).x,.int .i64 ((pc.sub pa)).y,.int .i64 ((pc.sub pa)).z]],by simp [go_sem,h9,k9],Calls.mono (M2.out w) (by rintro e w2 ⟨rfl,hb⟩;exact ⟨_,rfl,((kn.at (k:=19) rfl _ _).2 rfl),fun j v _ h=>K j v _ _ hb h,hH.glob.trans (hb.mono hH.glob.size)⟩)⟩)) ?_
              iterate 8 first
               | (refine RV.cc _ (RV.pk kn T (fun γ v L w hl h=>h) (fun γ L a w hH hl h9 k9=>⟨_,?_,rfl⟩)) ?_;· simp [execOp,go_sem,h9])
               | (refine RV.cc _ (RV.pk kn T (fun γ v L w hl h=>h) (fun γ L a w hH hl h9 k9=>⟨_,?_,rfl⟩)) ?_;· simp [Region.binds] at k9;simp [execOp,go_sem,h9,k9,hkz,hjz])
               | (refine RV.cc _ (RV.pk kn T (fun γ v L w hl h=>h) (fun γ L a w hH hl h9 k9=>⟨_,?_,rfl⟩)) ?_;· have v0:=c_after hH.glob z0;have v1:=c_after hH.glob z1;have v2:=c_after hH.glob z2;simp [Region.binds] at k9;simp [execOp,go_sem,h9,k9,v0,v1,v2])
               | (refine RV.cc _ (RV.pk kn T (fun γ v L w hl h=>h) (fun γ L a w hH hl h9 k9=>⟨_,?_,rfl⟩)) ?_;· have v0:=c_after hH.glob y0;have v1:=c_after hH.glob y1;have v2:=c_after hH.glob y2;simp [Region.binds] at k9;simp [execOp,go_sem,h9,k9,v0,v1,v2])
              refine RV.cc _ (RV.dc (fun γ L a w hH hl hA=>by have h9:=T _ _ γ L a w hH;have k9:=hA;simp [Region.binds] at k9;exact ⟨18,#[.agg #[.int .i64 pc.x,.int .i64 pc.y,.int .i64 pc.z],.agg #[.int .i64 pb.x,.int .i64 pb.y,.int .i64 pb.z]],by simp [go_sem,h9,k9],Calls.mono (L3.out w) (by rintro e w2 ⟨rfl,hb⟩;exact ⟨_,rfl,((kn.at (k:=28) rfl _ _).2 rfl),fun j v _ h=>K j v _ _ hb h,hH.glob.trans (hb.mono hH.glob.size)⟩)⟩)) ?_
              refine RV.cc _ (RV.dc (fun γ L a w hH hl hA=>by have h9:=T _ _ γ L a w hH;have k9:=hA;simp [Region.binds] at k9;exact ⟨88,#[.agg #[.int .i64 ((pc.sub pb)).x,.int .i64 ((pc.sub pb)).y,.int .i64 ((pc.sub pb)).z]],by simp [go_sem,h9,k9],Calls.mono (M3.out w) (by rintro e w2 ⟨rfl,hb⟩;exact ⟨_,rfl,((kn.at (k:=29) rfl _ _).2 rfl),fun j v _ h=>K j v _ _ hb h,hH.glob.trans (hb.mono hH.glob.size)⟩)⟩)) ?_
              refine RV.cc _ (RV.does_step (fun γ L a w hH hl hA=>by have h9:=T _ _ γ L a w hH;have k9:=hA;simp [Region.binds] at k9;exact ⟨.slice (some ⟨w.heap.size,0,none⟩) 3 3,w.alloc (.cells #[.int .i64 (pb.sub pa).short.x,.int .i64 (pb.sub pa).short.y,.int .i64 (pb.sub pa).short.z,.int .i64 (pc.sub pa).short.x,.int .i64 (pc.sub pa).short.y,.int .i64 (pc.sub pa).short.z,.int .i64 (pc.sub pb).short.x,.int .i64 (pc.sub pb).short.y,.int .i64 (pc.sub pb).short.z] 45),by simp [execOp,go_sem,h9,k9],(r30 _ _).mpr ⟨w.heap.size,rfl,hH.glob.size,by simp,at_new w (pb.sub pa).short (pc.sub pa).short (pc.sub pb).short _⟩,fun j v _ h=>K j v _ _ (n_after w _) h,hH.glob.trans ((n_after w _).mono hH.glob.size)⟩)) ?_
              refine RV.cc _ (RV.dp (fun γ v L w hl h=>h) (fun γ L a w hH hl hA=>by have l0:L 30 = true:=hA ⟨30,.data⟩ (by simp) rfl;have e0:=hH.slot 30 118 (by rw [<- hD];rfl) l0;have g0:=hH.holds 30 l0;rw [r30] at g0;exact ⟨γ 30,by simp [execOp,go_sem,e0],(r31 _ _).mpr g0⟩)) ?_
              exact RV.AllDo.nil
             ·intro γ a5 w5 L9 hL hLo hH
              have ha:=RV.held_act hH hL (by kernel_rfl) (by kernel_rfl)
              obtain ⟨g9,y31,yg,yl,yat⟩:∃ g9,γ 31 = .slice (some ⟨g9,0,none⟩) 3 3/\Wx.heap.size <= g9/\g9 < w5.heap.size/\At w5 g9 [(pb.sub pa).short,(pc.sub pa).short,(pc.sub pb).short]:=hH.holds 31 (hL 31 (by decide))
              have hb8:=hH.glob
              rw [ha]
              clear ha hH hL hLo
              simp only [RV.putAll,Act.put,List.setIfInBounds_toArray,List.set_cons_zero,List.set_cons_succ,Nat.zero_add,Nat.reduceAdd]
              rw [y31]
              have na:(Value.slice oa' A'.length ca').ownBlock ≠ some g9:=fun e=>by have:=(HT.out.ra.lt _ e).2;omega
              have ne:(Value.slice oe E.length ce).ownBlock ≠ some g9:=fun e=>by have:=(HT.out.re.lt _ e).2;omega
              have HT:Hid _:=HT.out.step hb8
              have HAT:Hid _:=yat
              have i1:=inB_mono (short_in (pb.sub pa)) (show (1048576:Int) <= 1152921504606846976 by decide)
              have i2:=inB_mono (short_in (pc.sub pa)) (show (1048576:Int) <= 1152921504606846976 by decide)
              have i3:=inB_mono (short_in (pc.sub pb)) (show (1048576:Int) <= 1152921504606846976 by decide)
              generalize (pb.sub pa).short = t1 at *
              generalize (pc.sub pa).short = t2 at *
              generalize (pc.sub pb).short = t3 at *
              have HTI:Hid (∀ m,m < 3->(pt [t1,t2,t3] m).inB 1152921504606846976 = true):=fun m hm=>by
               match m,hm with
               | 0,_=>exact i1
               | 1,_=>exact i2
               | 2,_=>exact i3
              clear hb8 y31 yat x0 x1 x2 y0 y1 y2 z0 z1 z2 L1 L2 L3 M1 M2 M3 i1 i2 i3
              obtain ⟨Wy,hWy⟩:∃ X:World,X = w5:=⟨_,rfl⟩
              rw [<- hWy] at HT HAT yl ⊢
              clear hWy
              have HED:Hid (withQ (withQ (withQ E t1) t2) t3 = [t1,t2,t3].foldl withQ E):=rfl
              rw [HED.out] at HD
              clear HED
              generalize hQQ:[t1,t2,t3] = QQ at *
              have hQl:QQ.length = 3:=by rw [<- hQQ];rfl
              clear hQQ
              go_wp2_with (fail)
              go_loopg [5,14] 3 (fun gm s5 s14 wz=>∃ (m:Nat) (E2:List Pt) (oe2:Option Addr) (ce2:Nat),s5 = .slice oe2 E2.length ce2/\s14 = .int .i64 (m:Int)/\m <= 3/\gm = 3 - m/\E2.length <= E.length + m/\Hid ((QQ.take m).foldl withQ E = E2)/\Hid (Two w0 wz (.slice oa' A'.length ca') (.slice oe2 E2.length ce2) A' E2 [])/\Hid (At wz g9 QQ/\(Value.slice oe2 E2.length ce2).ownBlock ≠ some g9/\g9 < wz.heap.size))
              case atStart=>exact ⟨0,E,oe,ce,rfl,rfl,by omega,rfl,by omega,rfl,HT,HAT.out,ne,yl⟩
              case round =>
               clear HT HAT ne yl
               obtain ⟨m,E2,oe2,ce2,rfl,rfl,hm,hgm,hE2,HF,HT,HAT⟩:=hrel
               have HG4:Hid _:=hgm
               clear hgm
               by_cases hmt:m < 3
               ·obtain ⟨x0,x1,x2⟩:=HAT.out.1 m (by omega)
                have hqin:=HTI.out m hmt
                have HF:Hid ((QQ.take (m + 1)).foldl withQ E = withQ E2 (pt QQ m)):=by show _ = _;rw [take_pt (by omega),List.foldl_append,HF.out];rfl
                generalize pt QQ m = q at *
                have hEs:E2.length <= 1000000:=by omega
                have HH:Hid _:=fun w' (h:Lies w' (.slice oe2 E2.length ce2) E2)=>has_any _ E2 q true w' h hEs hqin
                unfold Pt.v at HH
                have hmz:(m:Int) < 3:=by omega
                go_wp2_with (fail)
                refine Calls.mono (HH.out _ (Lies.of_row HT.out.re)) ?_
                clear HH
                rintro e W9 ⟨rfl,hb⟩
                rw [dec_or]
                have HT:Hid _:=HT.out.step hb
                have x0:=c_after hb x0
                have x1:=c_after hb x1
                have x2:=c_after hb x2
                have HAT:Hid (At W9 g9 QQ/\(Value.slice oe2 E2.length ce2).ownBlock ≠ some g9/\g9 < W9.heap.size):=⟨HAT.out.1.below hb,HAT.out.2.1,Nat.lt_of_lt_of_le HAT.out.2.2 hb.size⟩
                clear hb
                by_cases hq:q ∈ E2 \/ q.neg ∈ E2
                ·have hw:withQ E2 q = E2:=by unfold withQ;rw [if_pos hq]
                 have hd:(decide (q ∈ E2) || decide (q.neg ∈ E2)) = true:=by simpa using hq
                 rw [hd]
                 rw [hw] at HF
                 clear hq hw hd x0 x1 x2
                 go_wp2_with (fail)
                 go_roundg (3 - (m + 1))
                 case measure=>have:=HG4.out;omega
                 case rel=>exact ⟨m + 1,E2,oe2,ce2,rfl,by go_num,by omega,rfl,by omega,HF,HT,HAT⟩
                ·have hw:withQ E2 q = E2 ++ [q]:=by unfold withQ;rw [if_neg hq]
                 have hd:(decide (q ∈ E2) || decide (q.neg ∈ E2)) = false:=by simpa using hq
                 rw [hd]
                 rw [hw] at HF
                 clear hq hw hd
                 have hsz:=HT.out.below.size
                 go_wp2_with (at_builtin;refine wpList_append_own_at _ rfl _ _ 26 rfl w0.heap.size 45 i0 _ 3 24 Tryz.underlying26 HI.out.1 HI.out.2.1 HI.out.2.2.1 HI.out.2.2.2 rfl (by decide) _ _ _ rfl (own_below HT.out.re (n_after W9 _)) ⟨W9.heap.size,0,none⟩ 1 1 [.int .i64 q.x,.int .i64 q.y,.int .i64 q.z] rfl rfl (news_at (heap_alloc_new W9 _)) (by intro u hu;simp at hu;rcases hu with rfl | rfl | rfl <;> rfl) (by unfold maxLen;omega) (by omega) (by simp;omega) ?_;intro u9 V2 r8 g8 _ s8)
                 have hrow:V2.ownsRow w0.heap.size 45 3 u9 (E2 ++ [q]).length (fl3 (E2 ++ [q])):=by rw [fl3_append,List.length_append];exact r8
                 have hgr:Grew (W9.alloc (.cells #[.int .i64 q.x,.int .i64 q.y,.int .i64 q.z] 45)) V2 (.slice oe2 E2.length ce2) u9:=⟨g8,by rcases s8 with e | e;exact Or.inl e;exact Or.inr ⟨_,e,Nat.le_refl _⟩⟩
                 have HT2:=(HT.out.step (n_after W9 (.cells #[.int .i64 q.x,.int .i64 q.y,.int .i64 q.z] 45))).edge hrow hgr
                 have hat2:At V2 g9 QQ/\u9.ownBlock ≠ some g9/\g9 < V2.heap.size:=by
                  refine ⟨(HAT.out.1.below (n_after W9 _)).grown hgr.grown HAT.out.2.1,fun e=>?_,?_⟩
                  ·have k:=HAT.out.2.2
                   rcases hgr.same with s | ⟨k9,s,hk9⟩
                   ·exact HAT.out.2.1 (s ▸ e)
                   ·rw [s] at e;cases e;simp at hk9;omega
                  ·have k:=HAT.out.2.2;have k2:=hgr.grown.size;simp at k2;omega
                 obtain ⟨o9,c9,rfl,_⟩:=(Lies.of_row hrow).form
                 have HT2:Hid _:=HT2
                 have HAT2:Hid _:=hat2
                 clear r8 g8 s8 hrow hgr hat2
                 go_roundg (3 - (m + 1))
                 case measure=>have:=HG4.out;omega
                 case rel=>exact ⟨m + 1,E2 ++ [q],o9,c9,rfl,by go_num,by omega,rfl,by rw [List.length_append];simp;omega,HF,HT2,HAT2⟩
               ·have e:m = 3:=by omega
                subst e
                have HF:Hid (QQ.foldl withQ E = E2):=by show _ = _;rw [<- HF.out,List.take_of_length_le (by omega)]
                rw [HF.out] at HD
                go_wp2_with (fail)
                go_roundg (Ls.length - (kk + 1))
                case measure=>have:=HG3.out;omega
                case rel=>exact ⟨kk + 1,A',E2,oa',oe2,ca',ce2,rfl,rfl,by go_num,by omega,by omega,rfl,by omega,by omega,HD,HT⟩
      ·have HD:Hid (outerP Ls (Ls.drop (i + 1)) (midP Ls pa (Ls.drop (jq + 1)) (A,E)) = Rz):=by show _ = _;rw [<- HD.out,List.drop_eq_nil_of_le (by omega:Ls.length <= kk)];rfl
       go_wp2_with (fail)
       go_roundg (Ls.length - (jq + 1))
       case measure=>have:=HG2.out;omega
       case rel=>exact ⟨jq + 1,A,E,oa,oe,ca,ce,rfl,rfl,by go_num,by omega,by omega,rfl,by omega,by omega,HD,HT⟩
    ·have HD:Hid (outerP Ls (Ls.drop (i + 1)) (A,E) = Rz):=by show _ = _;rw [<- HD.out,List.drop_eq_nil_of_le (by omega:Ls.length <= jq)];rfl
     go_wp2_with (fail)
     go_roundg (Ls.length - (i + 1))
     case measure=>have:=HG1.out;omega
     case rel=>exact ⟨i + 1,A,E,oa,oe,ca,ce,rfl,rfl,by go_num,by omega,rfl,by omega,by omega,HD,HT⟩
  ·have e:Rz = (A,E):=by rw [<- HD.out,List.drop_eq_nil_of_le (by omega:Ls.length <= i)];rfl
   subst e
   go_wp2_with (fail)
   go_ret2
   exact ⟨_,_,rfl,HT.out⟩
end
section
open Go.RowKit Go.Shelf Fx
def hw (lo hi r:Int):Int:=((hi - lo).tdiv 2 + r) * 1048576
end
end Go.Proofs.YtablgiflakncfaaGreat
