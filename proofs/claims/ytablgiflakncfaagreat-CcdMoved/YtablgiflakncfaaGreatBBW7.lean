/- The document's own test of shapes: form, Check. -/
import Derived.Test.YtablgiflakncfaaGreatBBW6
import Derived.Test.YtablgiflakncfaaGreatProg
import Derived.WalkKit
import Derived.Laws.MathBits
import Derived.Laws.Externs
import Derived.Handy
import Derived.Test.YtablgiflakncfaaGreatBBW1
import Derived.Laws.BitsAllLaws
import Derived.WalkLawsBesides
set_option maxHeartbeats 4000000
set_option maxRecDepth 100000
set_option linter.unusedVariables false
namespace Go.Proofs.YtablgiflakncfaaGreat
section
open Go.RowKit Go.Shelf
theorem pt_getElem {L:List Pt} {i:Nat} (h:i < L.length):pt L i = L[i]:=by unfold pt;simp [h]
theorem may_iff {L:List Pt} (h4:4 <= L.length) (h12:L.length <= 12):mayP L = true ↔ ∀ j,j < L.length->(pt L j).inB 65536 = true/\∀ j',j' < j->pt L j' ≠ pt L j:=by
 unfold mayP
 rw [decide_eq_true (p:=4 <= L.length/\L.length <= 12) ⟨h4,h12⟩,Bool.true_and,Bool.and_eq_true,decide_eq_true_eq,List.all_eq_true]
 constructor
 ·rintro ⟨h1,h2⟩ j hj
  refine ⟨h1 _ (pt_mem hj),fun j' hj' e=>?_⟩
  rw [pt_getElem hj,pt_getElem (by omega:j' < L.length)] at e
  exact (List.pairwise_iff_getElem.1 h2 j' j (by omega) hj hj') e
 ·intro h
  refine ⟨fun p hp=>?_,List.pairwise_iff_getElem.2 fun i j hi hj hij e=>?_⟩
  ·obtain ⟨i,hi,rfl⟩:=List.getElem_of_mem hp
   rw [<- pt_getElem hi];exact (h i hi).1
  ·exact (h j hj).2 i hij (by rw [pt_getElem hi,pt_getElem hj];exact e)
theorem rform_hull (r:Int) (hf:Pt) (pv:Value) (Ls:List Pt) (w:World) (hv:Lies w pv Ls) :
  Calls Tryz.prog 127 #[.agg #[.int .i64 4,.int .i64 r,.int .i64 hf.x,.int .i64 hf.y,.int .i64 hf.z,pv]] w fun e W=>e = .returned (.bool (inR r 0 16384 && mayP Ls))/\Below w.heap.size w W:=by
 obtain ⟨hx,hy,hz⟩:=hf
 obtain ⟨o,c,rfl,hlc,hcm,hcell⟩:=hv.form
 have HC:Hid _:=hcell
 clear hcell hv
 dsimp only
 have hB:Hid (Below w.heap.size w (w.alloc (.cells #[.int .i64 4,.int .i64 r,.int .i64 hx,.int .i64 hy,.int .i64 hz,.slice o Ls.length c] 100))):=n_after w _
 have B1:Hid (Cells (w.alloc (.cells #[.int .i64 4,.int .i64 r,.int .i64 hx,.int .i64 hy,.int .i64 hz,.slice o Ls.length c] 100)) w.heap.size [.int .i64 4,.int .i64 r,.int .i64 hx,.int .i64 hy,.int .i64 hz,.slice o Ls.length c]):=Cells.new w [.int .i64 4,.int .i64 r,.int .i64 hx,.int .i64 hy,.int .i64 hz,.slice o Ls.length c] _
 cases hb:inR r 0 16384 with
 | false =>
  go_enter Tryz.func127,Tryz.ntmps127
  go_wp2_with (fail)
  refine Calls.mono (rin_is r 0 16384 _ false hb) ?_
  rintro e w' ⟨rfl,rfl⟩
  go_wp2_with (fail)
  go_ret
  exact ⟨rfl,hB.out⟩
 | true =>
  cases hl:inR (Ls.length:Int) 4 12 with
  | false =>
   have e:mayP Ls = false:=by
    unfold mayP
    rw [decide_eq_false (p:=4 <= Ls.length/\Ls.length <= 12) (by have:=of_decide_eq_false hl;omega)];rfl
   rw [e]
   clear e
   go_enter Tryz.func127,Tryz.ntmps127
   go_wp2_with (fail)
   refine Calls.mono (rin_is r 0 16384 _ true hb) ?_
   rintro e w' ⟨rfl,rfl⟩
   go_wp2_with (fail)
   refine Calls.mono (rin_is _ 4 12 _ false hl) ?_
   rintro e w' ⟨rfl,rfl⟩
   go_wp2_with (fail)
   go_ret
   exact ⟨rfl,hB.out⟩
  | true =>
   have h4:4 <= Ls.length:=by have:=of_decide_eq_true hl;omega
   have h12:Ls.length <= 12:=by have:=of_decide_eq_true hl;omega
   have HF:Hid _:=may_iff h4 h12
   generalize mayP Ls = R at *
   obtain ⟨g,off,rfl,_,_,_⟩:=HC.out 0 (by omega)
   go_enter Tryz.func127,Tryz.ntmps127
   go_wp2_with (fail)
   refine Calls.mono (rin_is r 0 16384 _ true hb) ?_
   rintro e w' ⟨rfl,rfl⟩
   go_wp2_with (fail)
   refine Calls.mono (rin_is _ 4 12 _ true hl) ?_
   rintro e V ⟨rfl,rfl⟩
   clear hb hl
   go_wp2_with (fail)
   obtain ⟨V,hV⟩:∃ V:World,V = w.alloc (.cells #[.int .i64 4,.int .i64 r,.int .i64 hx,.int .i64 hy,.int .i64 hz,.slice (some ⟨g,off,none⟩) Ls.length c] 100):=⟨_,rfl⟩
   rw [<- hV] at B1 hB ⊢
   clear hV
   go_loopg [4] Ls.length (fun gm s wr=>∃ i:Nat,s = .int .i64 (i:Int)/\i <= Ls.length/\gm = Ls.length - i/\Hid (∀ j,j < i->(pt Ls j).inB 65536 = true/\∀ j',j' < j->pt Ls j' ≠ pt Ls j)/\Hid (Below V.heap.size V wr))
   case atStart=>exact ⟨0,rfl,Nat.zero_le _,rfl,fun j h=>absurd h (Nat.not_lt_zero _),Below.refl _ _⟩
   case round =>
    obtain ⟨i,rfl,hi,hgm,HA,HBi⟩:=hrel
    have HG1:Hid _:=hgm
    clear hgm
    have s5:=(Cells.step B1.out HBi.out 5 _ rfl).1
    by_cases hit:i < Ls.length
    ·obtain ⟨g',off',e',x0,x1,x2⟩:=HC.out i hit
     simp only [Option.some.injEq,Addr.mk.injEq,and_true] at e'
     obtain ⟨rfl,rfl⟩:=e'
     have HX:Hid _:=And.intro (c_after hB.out x0) (And.intro (c_after hB.out x1) (c_after hB.out x2))
     clear x0 x1 x2
     have x0:=c_after HBi.out HX.out.1
     have x1:=c_after HBi.out HX.out.2.1
     have x2:=c_after HBi.out HX.out.2.2
     have HW:Hid _:=fun w'=>rwithin_any (pt Ls i) (-65536) 65536 w'
     rw [inP_sym] at HW
     have HM:Hid ((pt Ls i).inB 65536 = false->R = false):=fun h=>by
      cases R with
      | false=>rfl
      | true=>have:=(HF.out.1 rfl i hit).1;rw [h] at this;cases this
     have HM2:Hid (∀ k,k < i->pt Ls k = pt Ls i->R = false):=fun k hk h=>by
      cases R with
      | false=>rfl
      | true=>exact absurd h ((HF.out.1 rfl i hit).2 k hk)
     have HS1:Hid ((pt Ls i).inB 65536 = true->(∀ j',j' < i->pt Ls j' ≠ pt Ls i)->∀ j,j < i + 1->(pt Ls j).inB 65536 = true/\∀ j',j' < j->pt Ls j' ≠ pt Ls j):=fun h1 h2 j hj=>by
      by_cases e:j = i
      ·subst e;exact ⟨h1,h2⟩
      ·exact HA.out j (by omega)
     generalize pt Ls i = pc at *
     unfold Pt.v at HW
     generalize pc.inB 65536 = t at *
     go_wp2_with (fail)
     refine Calls.mono (HW.out _) ?_
     rintro e V1 ⟨rfl,hb1⟩
     have HB1:Hid _:=b_step HBi.out hb1
     clear hb1 x0 x1 x2 s5 HW
     cases t with
     | false =>
      have e:R = false:=HM.out rfl
      subst e
      go_wp2_with (fail)
      go_ret
      exact ⟨rfl,b_step hB.out HB1.out⟩
     | true =>
      have HS2:Hid _:=HS1.out rfl
      clear HS1 HM
      go_wp2_with (fail)
      go_loopg [6] i (fun gm s wr=>∃ k:Nat,s = .int .i64 (k:Int)/\k <= i/\gm = i - k/\Hid (∀ j',j' < k->pt Ls j' ≠ pc)/\Hid (Below V.heap.size V wr))
      case atStart=>exact ⟨0,rfl,Nat.zero_le _,rfl,fun j' h=>absurd h (Nat.not_lt_zero _),HB1⟩
      case round =>
       obtain ⟨k,rfl,hk,hgm,HA2,HBk⟩:=hrel
       have HG2:Hid _:=hgm
       clear hgm
       by_cases hkt:k < i
       ·have hkl:k < Ls.length:=by omega
        obtain ⟨g',off',e',y0,y1,y2⟩:=HC.out k hkl
        simp only [Option.some.injEq,Addr.mk.injEq,and_true] at e'
        obtain ⟨rfl,rfl⟩:=e'
        have y0:=c_after (b_step hB.out HBk.out) y0
        have y1:=c_after (b_step hB.out HBk.out) y1
        have y2:=c_after (b_step hB.out HBk.out) y2
        have x0:=c_after HBk.out HX.out.1
        have x1:=c_after HBk.out HX.out.2.1
        have x2:=c_after HBk.out HX.out.2.2
        have s5:=(Cells.step B1.out HBk.out 5 _ rfl).1
        have HEQ:Hid (pt Ls k = pc->R = false):=HM2.out k hkt
        have HNE:Hid (¬ pt Ls k = pc->∀ j',j' < k + 1->pt Ls j' ≠ pc):=fun h j' hj=>by
         by_cases e:j' = k
         ·subst e;exact h
         ·exact HA2.out j' (by omega)
        rw [pt_eq] at HEQ HNE
        generalize (pt Ls k).x = lx at *
        generalize (pt Ls k).y = ly at *
        generalize (pt Ls k).z = lz at *
        by_cases ex:lx = pc.x
        ·by_cases ey:ly = pc.y
         ·by_cases ez:lz = pc.z
          ·have e:R = false:=HEQ.out ⟨ex,ey,ez⟩
           subst e ex ey ez
           go_wp2_with (fail)
           go_region
           go_wp2_with (fail)
           go_ret
           exact ⟨rfl,b_step hB.out HBk.out.drew⟩
          ·have HN:Hid _:=HNE.out (fun h=>ez h.2.2)
           have e1:(lz == pc.z) = false:=beq_eq_false_iff_ne.2 ez
           clear HEQ HNE
           go_wp2_with (fail)
           go_region
           go_wp2_with (fail)
           go_roundg (i - (k + 1))
           case measure=>have:=HG2.out;omega
           case rel=>exact ⟨k + 1,by go_num,by omega,rfl,HN,HBk.out.drew⟩
         ·have HN:Hid _:=HNE.out (fun h=>ey h.2.1)
          have e1:(ly == pc.y) = false:=beq_eq_false_iff_ne.2 ey
          clear HEQ HNE
          go_wp2_with (fail)
          go_region
          go_wp2_with (fail)
          go_roundg (i - (k + 1))
          case measure=>have:=HG2.out;omega
          case rel=>exact ⟨k + 1,by go_num,by omega,rfl,HN,HBk.out.drew⟩
        ·have HN:Hid _:=HNE.out (fun h=>ex h.1)
         have e1:(lx == pc.x) = false:=beq_eq_false_iff_ne.2 ex
         clear HEQ HNE
         go_wp2_with (fail)
         go_region
         go_wp2_with (fail)
         go_roundg (i - (k + 1))
         case measure=>have:=HG2.out;omega
         case rel=>exact ⟨k + 1,by go_num,by omega,rfl,HN,HBk.out.drew⟩
       ·have HS3:Hid _:=HS2.out (fun j' h=>HA2.out j' (by omega))
        go_wp2_with (fail)
        go_roundg (Ls.length - (i + 1))
        case measure=>have:=HG1.out;omega
        case rel=>exact ⟨i + 1,by go_num,by omega,rfl,HS3,HBk⟩
    ·have e:R = true:=HF.out.2 (fun j hj=>HA.out j (by omega))
     subst e
     go_wp2_with (fail)
     go_ret
     exact ⟨rfl,b_step hB.out HBi.out⟩
end
section
open Go.RowKit Go.Shelf
theorem rform_any (s:Sh) (pv:Value) (w:World) (hv:Lies w pv s.pts) :
  Calls Tryz.prog 127 #[s.v pv] w fun e W=>e = .returned (.bool (formP s))/\Below w.heap.size w W:=by
 obtain ⟨k,r,⟨hx,hy,hz⟩,L⟩:=s
 have HF:Hid (formP ⟨k,r,⟨hx,hy,hz⟩,L⟩ = if k = 1 then inR r 1 16384 else if k = 2 then inR r 1 16384 && halfOk hx else if k = 3 then inR r 0 16384 && (halfOk hx && (halfOk hy && halfOk hz)) else if k = 4 then inR r 0 16384 && mayP L else false):=rfl
 generalize formP ⟨k,r,⟨hx,hy,hz⟩,L⟩ = F at *
 have HV:Hid _:=hv
 have hB:Hid (Below w.heap.size w (w.alloc (.cells #[.int .i64 k,.int .i64 r,.int .i64 hx,.int .i64 hy,.int .i64 hz,pv] 100))):=n_after w _
 have B1:Hid (Cells (w.alloc (.cells #[.int .i64 k,.int .i64 r,.int .i64 hx,.int .i64 hy,.int .i64 hz,pv] 100)) w.heap.size [.int .i64 k,.int .i64 r,.int .i64 hx,.int .i64 hy,.int .i64 hz,pv]):=Cells.new w [.int .i64 k,.int .i64 r,.int .i64 hx,.int .i64 hy,.int .i64 hz,pv] _
 obtain ⟨o,c,rfl,hlc,hcm,_⟩:=hv.form
 dsimp only at hlc hcm hB HV ⊢
 clear hv
 unfold Sh.v
 dsimp only
 by_cases k1:k = 1
 ·subst k1
  have e:F = inR r 1 16384:=HF.out
  subst e
  generalize hb:inR r 1 16384 = t
  go_enter Tryz.func127,Tryz.ntmps127
  go_wp2_with (fail)
  refine Calls.mono (rin_is r 1 16384 _ t hb) ?_
  rintro e w' ⟨rfl,rfl⟩
  go_wp2_with (fail)
  go_ret
  exact ⟨rfl,hB.out⟩
 by_cases k2:k = 2
 ·subst k2
  have e:F = (inR r 1 16384 && halfOk hx):=HF.out
  cases hb:inR r 1 16384 with
  | false =>
   rw [hb] at e
   subst e
   go_enter Tryz.func127,Tryz.ntmps127
   go_wp2_with (fail)
   refine Calls.mono (rin_is r 1 16384 _ false hb) ?_
   rintro e w' ⟨rfl,rfl⟩
   go_wp2_with (fail)
   go_ret
   exact ⟨rfl,hB.out⟩
  | true =>
   rw [hb] at e
   have e2:F = inR hx 1 65536:=e
   clear e
   subst e2
   generalize hh:inR hx 1 65536 = t
   go_enter Tryz.func127,Tryz.ntmps127
   go_wp2_with (fail)
   refine Calls.mono (rin_is r 1 16384 _ true hb) ?_
   rintro e w' ⟨rfl,rfl⟩
   go_wp2_with (fail)
   refine Calls.mono (rin_is hx 1 65536 _ t hh) ?_
   rintro e w' ⟨rfl,rfl⟩
   go_wp2_with (fail)
   go_ret
   exact ⟨rfl,hB.out⟩
 by_cases k3:k = 3
 ·subst k3
  have e:F = (inR r 0 16384 && inP ⟨hx,hy,hz⟩ 1 65536):=HF.out
  have HW:Hid _:=fun w'=>rwithin_any ⟨hx,hy,hz⟩ 1 65536 w'
  generalize inP ⟨hx,hy,hz⟩ 1 65536 = u at *
  unfold Pt.v at HW
  dsimp only at HW
  subst e
  generalize hb:inR r 0 16384 = t
  have c2:=(B1.out 2 _ rfl).1
  have c3:=(B1.out 3 _ rfl).1
  have c4:=(B1.out 4 _ rfl).1
  go_enter Tryz.func127,Tryz.ntmps127
  go_wp2_with (fail)
  refine Calls.mono (HW.out _) ?_
  rintro e V ⟨rfl,hb2⟩
  have c1:=(Cells.step B1.out hb2 1 _ rfl).1
  have hB2:Hid _:=b_step hB.out hb2
  clear hb2 c2 c3 c4
  cases t with
  | false =>
   go_wp2_with (fail)
   refine Calls.mono (rin_is r 0 16384 _ false hb) ?_
   rintro e w' ⟨rfl,rfl⟩
   go_wp2_with (fail)
   go_ret
   exact ⟨rfl,hB2.out⟩
  | true =>
   go_wp2_with (fail)
   refine Calls.mono (rin_is r 0 16384 _ true hb) ?_
   rintro e w' ⟨rfl,rfl⟩
   go_wp2_with (fail)
   go_ret
   exact ⟨rfl,hB2.out⟩
 by_cases k4:k = 4
 ·subst k4
  have e:F = (inR r 0 16384 && mayP L):=HF.out
  rw [e]
  exact rform_hull r ⟨hx,hy,hz⟩ _ L w HV.out
 ·have e:F = false:=by rw [HF.out,if_neg k1,if_neg k2,if_neg k3,if_neg k4]
  subst e
  go_enter Tryz.func127,Tryz.ntmps127
  go_wp2
  go_ret
  exact ⟨rfl,hB.out⟩
theorem rcheck_any (s:Sh) (pv:Value) (w:World) (hv:Lies w pv s.pts) :
  Calls Tryz.prog 91 #[s.v pv] w fun e W=>e = .returned (.int .i64 (checkP s))/\Below w.heap.size w W:=by
 have hB:Hid (Below w.heap.size w (w.alloc (.cells #[.int .i64 s.kind,.int .i64 s.radius,.int .i64 s.half.x,.int .i64 s.half.y,.int .i64 s.half.z,pv] 100))):=n_after w _
 have HF:Hid _:=rform_any s pv (w.alloc (.cells #[.int .i64 s.kind,.int .i64 s.radius,.int .i64 s.half.x,.int .i64 s.half.y,.int .i64 s.half.z,pv] 100)) (hv.below hB.out)
 have HC:Hid (checkP s = if formP s then (if s.kind = 4/\flatP s.pts = true then 51 else 0) else 50):=rfl
 have HM:Hid (formP s = true->s.kind = 4->mayP s.pts = true):=fun a b=>form_hull a b
 generalize checkP s = C at *
 have HV:Hid _:=hv
 obtain ⟨o,c,rfl,hlc,hcm,_⟩:=hv.form
 clear hv
 generalize formP s = F at *
 obtain ⟨k,r,⟨hx,hy,hz⟩,L⟩:=s
 unfold Sh.v at *
 dsimp only at *
 cases F with
 | false =>
  have e:C = 50:=HC.out
  subst e
  go_enter Tryz.func91,Tryz.ntmps91
  go_wp2_with (go_at_call 127;refine Calls.mono HF.out ?_;rintro e V ⟨rfl,hb⟩)
  go_ret
  exact ⟨rfl,b_step hB.out hb⟩
 | true =>
  have c0:(w.alloc (.cells #[.int .i64 k,.int .i64 r,.int .i64 hx,.int .i64 hy,.int .i64 hz,.slice o L.length c] 100)).cell? ⟨w.heap.size,0,none⟩ = some (.int .i64 k):=by simp
  have c5:(w.alloc (.cells #[.int .i64 k,.int .i64 r,.int .i64 hx,.int .i64 hy,.int .i64 hz,.slice o L.length c] 100)).cell? ⟨w.heap.size,5,none⟩ = some (.slice o L.length c):=by simp
  by_cases k4:k = 4
  ·subst k4
   obtain ⟨m1,m2,m3,m4⟩:=may_parts (HM.out rfl rfl)
   have m3:Hid _:=m3
   have m5:Hid (pt L 0 ≠ pt L 1):=fun e=>by
    rw [pt_getElem (by omega:0 < L.length),pt_getElem (by omega:1 < L.length)] at e
    exact (List.pairwise_iff_getElem.1 m4 0 1 (by omega) (by omega) (by omega)) e
   have HC:Hid (C = if flatP L = true then 51 else 0):=by show _ = _;rw [HC.out];simp
   go_enter Tryz.func91,Tryz.ntmps91
   go_wp2_with (fail)
   refine Calls.mono HF.out ?_
   clear HF
   rintro e V ⟨rfl,hb⟩
   have d0:=c_after hb c0
   have d5:=c_after hb c5
   have hB2:Hid _:=b_step hB.out hb
   clear hb c0 c5
   go_wp2_with (fail)
   refine Calls.mono (rflat_any _ L V (HV.out.below hB2.out) m1 m2 m3.out m5.out) ?_
   rintro e V2 ⟨rfl,hb⟩
   clear d0 d5
   generalize flatP L = fl at *
   cases fl with
   | true =>
    have e:C = 51:=HC.out
    subst e
    go_wp2_with (fail)
    go_ret
    exact ⟨rfl,b_step hB2.out hb⟩
   | false =>
    have e:C = 0:=HC.out
    subst e
    go_wp2_with (fail)
    go_ret
    exact ⟨rfl,b_step hB2.out hb⟩
  ·have e:C = 0:=by rw [HC.out,if_pos rfl,if_neg (fun h=>k4 h.1)]
   subst e
   go_enter Tryz.func91,Tryz.ntmps91
   go_wp2_with (fail)
   refine Calls.mono HF.out ?_
   clear HF
   rintro e V ⟨rfl,hb⟩
   have d0:=c_after hb c0
   have hB2:Hid _:=b_step hB.out hb
   clear hb c0 c5
   go_wp2_with (fail)
   go_ret
   exact ⟨rfl,hB2.out⟩
end
section
open Go.RowKit
theorem mul64_any (x y:Int) (w:World) (hx0:0 <= x) (hx:x < 18446744073709551616) (hy0:0 <= y) (hy:y < 18446744073709551616) :
  Calls Tryz.prog 118 #[.int .u64 x,.int .u64 y] w fun e w'=>e = .returned (.tuple #[.int .u64 (x * y / 18446744073709551616),.int .u64 (x * y % 18446744073709551616)])/\w' = w:=by
 have Ha:Hid (_ = _):=mul64_arith x y hx0 hx hy0 hy
 have hmx:=and_low32 x hx0 hx
 have hmy:=and_low32 y hy0 hy
 have hmt:Hid (∀ z:Int,bits .and .u64 (z % 18446744073709551616) 4294967295 = z % 18446744073709551616 % 4294967296):=fun z=>and_low32 _ (by omega) (by omega)
 go_enter Tryz.func118,Tryz.ntmps118
 go_wp2
 simp only [IntKind.wrap_u64,hmt.out,Ha.out]
 go_ret2
 exact ⟨rfl,rfl⟩
theorem sub64_entry {P:Program} (x y b:Nat) (hb:b <= 1) (w:World) :
  ((Extern.MathBitsCarry.rows[1]'(by decide)).2 #[.int .u64 x,.int .u64 y,.int .u64 b]).run P w =
   .ok (.tuple #[.int .u64 (((x + 18446744073709551616 - y - b) % 18446744073709551616:Nat):Int),.int .u64 ((if x < y + b then 1 else 0:Nat):Int)]) w:=by
 have:b = 0 \/ b = 1:=by omega
 rcases this with rfl | rfl <;> rfl
theorem sub64_run (x y b:Int) (w:World) (hx0:0 <= x) (hx:x < 18446744073709551616) (hy0:0 <= y) (hy:y < 18446744073709551616) (hb0:0 <= b) (hb:b <= 1) :
  (callFunc 141 #[.int .u64 x,.int .u64 y,.int .u64 b]).run Tryz.prog w =
   .ok (.value (.tuple #[.int .u64 ((x - y - b) % 18446744073709551616),.int .u64 (if x < y + b then 1 else 0)])) w:=by
 obtain ⟨x,rfl⟩:=Int.eq_ofNat_of_zero_le hx0
 obtain ⟨y,rfl⟩:=Int.eq_ofNat_of_zero_le hy0
 obtain ⟨b,rfl⟩:=Int.eq_ofNat_of_zero_le hb0
 rw [run_callFunc_extern Tryz.func141 (by kernel_rfl) (by kernel_rfl) (by kernel_rfl) (e:=(Extern.MathBitsCarry.rows[1]'(by decide)).2) (by kernel_rfl),sub64_entry x y b (by omega)]
 simp only [Result.andThen]
 have e1:(((x + 18446744073709551616 - y - b) % 18446744073709551616:Nat):Int) = ((x:Int) - y - b) % 18446744073709551616:=by omega
 have e2:(((if x < y + b then 1 else 0:Nat)):Int) = (if (x:Int) < y + b then 1 else 0):=by split <;> split <;> omega
 rw [e1,e2]
theorem len_fin (x y B:Int) (b:Nat) (hB:B = (b:Int)) (hb:b <= 56) (hy:y.toNat = x.toNat / 2 ^ b) (h:b = 0 \/ y.toNat ≠ 0) (h256:y.toNat < 256) :
  wrap64 (B + wrap64 (bitLen y.toNat)) = bitLen x.toNat:=by
 have l:=bitLen_le8 y.toNat h256
 have e:bitLen x.toNat = b + bitLen y.toNat:=by
  rcases h with rfl | h
  ·rw [hy];simp
  ·rw [hy] at h ⊢;exact bitLen_shift _ _ h
 rw [e,hB]
 unfold wrap64
 omega
theorem len64_any (x:Int) (w:World) (hx0:0 <= x) (hx:x < 18446744073709551616) :
  Calls Tryz.prog 146 #[.int .u64 x] w fun e w'=>e = .returned (.int .i64 (bitLen x.toNat))/\w' = w:=by
 go_enter Tryz.func146,Tryz.ntmps146
 go_wp2
 all_goals (go_ret;refine ⟨congrArg Ending.returned (congrArg (Value.int IntKind.i64) ?_),rfl⟩;rw [len8tab_get])
 ·exact len_fin x _ _ 56 rfl (by omega) (by omega) (Or.inr (by omega)) (by omega)
 ·exact len_fin x _ _ 48 rfl (by omega) (by omega) (Or.inr (by omega)) (by omega)
 ·exact len_fin x _ _ 40 rfl (by omega) (by omega) (Or.inr (by omega)) (by omega)
 ·exact len_fin x _ _ 32 rfl (by omega) (by omega) (Or.inr (by omega)) (by omega)
 ·exact len_fin x _ _ 24 rfl (by omega) (by omega) (Or.inr (by omega)) (by omega)
 ·exact len_fin x _ _ 16 rfl (by omega) (by omega) (Or.inr (by omega)) (by omega)
 ·exact len_fin x _ _ 8 rfl (by omega) (by omega) (Or.inr (by omega)) (by omega)
 ·simpa using len_fin x x 0 0 rfl (by omega) (by simp) (Or.inl rfl) (by omega)
theorem bitLen_le64 (x:Int) (hx0:0 <= x) (hx:x < 18446744073709551616):bitLen x.toNat <= 64:=by
 by_cases h:x.toNat = 0
 ·rw [h];decide
 ·have:=(bitLen_spec x.toNat).2 h
  by_cases g:bitLen x.toNat <= 64
  ·exact g
  ·exfalso
   have:=Nat.pow_le_pow_right (n:=2) (by omega) (show 64 <= bitLen x.toNat - 1 by omega)
   omega
theorem lz64_any (x:Int) (w:World) (hx0:0 <= x) (hx:x < 18446744073709551616) :
  Calls Tryz.prog 142 #[.int .u64 x] w fun e w'=>e = .returned (.int .i64 (64 - (bitLen x.toNat:Int)))/\w' = w:=by
 have l:=bitLen_le64 x hx0 hx
 go_enter Tryz.func142,Tryz.ntmps142
 go_wp2_with (go_at_call 146;refine (len64_any x _ hx0 hx).mono ?_;rintro e w' ⟨rfl,rfl⟩)
 go_ret
 exact ⟨rfl,rfl⟩
end
section
open Go.RowKit Fx
theorem norm_setup (hi lo y:Int) (s:Nat) (hs:(64:Int) - (bitLen y.toNat:Int) = s) (hh0:1 <= hi) (hh:hi < y) (hl0:0 <= lo) (hl:lo < 18446744073709551616) (hy:y < 4611686018427387904) :
  1 <= s/\s <= 63/\∃ Y y1 y0 U1 L u1 u0:Int,
   IntKind.u64.wrap (y * 2 ^ s) = Y/\Y / 4294967296 = y1/\bits .and .u64 Y 4294967295 = y0/\Y = y1 * 4294967296 + y0/\0 <= y0/\y0 < 4294967296/\2147483648 <= y1/\y1 < 4294967296 /\
   bits .or .u64 (IntKind.u64.wrap (hi * 2 ^ s)) (lo / 2 ^ (64 - s)) = U1/\0 <= U1/\U1 < Y /\
   IntKind.u64.wrap (lo * 2 ^ s) = L/\L / 4294967296 = u1/\bits .and .u64 L 4294967295 = u0/\0 <= u1/\u1 < 4294967296/\0 <= u0/\u0 < 4294967296 /\
   Y = y * 2 ^ s/\(hi * 18446744073709551616 + lo) * 2 ^ s = U1 * 18446744073709551616 + u1 * 4294967296 + u0:=by
 obtain ⟨b1,b2⟩:=bitLen_spec y.toNat
 have b2:=b2 (by omega)
 generalize hb:bitLen y.toNat = b at *
 have hb62:b <= 62:=by
  by_cases g:b <= 62
  ·exact g
  ·exfalso
   have:=Nat.pow_le_pow_right (n:=2) (by omega) (show 62 <= b - 1 by omega)
   omega
 have hb1:1 <= b:=by
  rcases Nat.eq_zero_or_pos b with h0 | h0
  ·rw [h0] at b1;simp at b1;omega
  ·exact h0
 have hs1:1 <= s:=by omega
 have hs2:s <= 63:=by omega
 refine ⟨hs1,hs2,?_⟩
 have p1:(2:Nat) ^ (b - 1) * 2 ^ s = 9223372036854775808:=by rw [<- Nat.pow_add,show b - 1 + s = 63 by omega]
 have p2:(2:Nat) ^ b * 2 ^ s = 18446744073709551616:=by rw [<- Nat.pow_add,show b + s = 64 by omega]
 have p3:(2:Nat) ^ (64 - s) * 2 ^ s = 18446744073709551616:=by rw [<- Nat.pow_add,show 64 - s + s = 64 by omega]
 have hp:0 < (2:Nat) ^ s:=Nat.two_pow_pos s
 have hp':0 < (2:Nat) ^ (64 - s):=Nat.two_pow_pos _
 obtain ⟨Y,rfl⟩:=Int.eq_ofNat_of_zero_le (show 0 <= y by omega)
 obtain ⟨H,rfl⟩:=Int.eq_ofNat_of_zero_le (show 0 <= hi by omega)
 obtain ⟨L,rfl⟩:=Int.eq_ofNat_of_zero_le hl0
 simp only [Int.toNat_natCast] at b1 b2
 have q1:9223372036854775808 <= Y * 2 ^ s:=by rw [<- p1];exact Nat.mul_le_mul_right _ b2
 have q2:Y * 2 ^ s < 18446744073709551616:=by rw [<- p2];exact Nat.mul_lt_mul_of_pos_right b1 hp
 have q3:H * 2 ^ s + 2 ^ s <= Y * 2 ^ s:=by rw [<- Nat.succ_mul];exact Nat.mul_le_mul_right _ (by omega)
 have c1:((Y:Int) * 2 ^ s) = ((Y * 2 ^ s:Nat):Int):=by simp
 have c2:((H:Int) * 2 ^ s) = ((H * 2 ^ s:Nat):Int):=by simp
 have c3:((L:Int) * 2 ^ s) = ((L * 2 ^ s:Nat):Int):=by simp
 have c4:((L:Int) / 2 ^ (64 - s)) = ((L / 2 ^ (64 - s):Nat):Int):=by simp
 have d1:L / 2 ^ (64 - s) < 2 ^ s:=by
  rw [Nat.div_lt_iff_lt_mul hp',Nat.mul_comm,p3];omega
 have d2:L * 2 ^ s = L / 2 ^ (64 - s) * 18446744073709551616 + L * 2 ^ s % 18446744073709551616:=by
  have e:=Nat.div_add_mod L (2 ^ (64 - s))
  have m:L % 2 ^ (64 - s) * 2 ^ s < 18446744073709551616:=by rw [<- p3];exact Nat.mul_lt_mul_of_pos_right (Nat.mod_lt _ hp') hp
  have e2:L * 2 ^ s = L / 2 ^ (64 - s) * 18446744073709551616 + L % 2 ^ (64 - s) * 2 ^ s:=by
   have:L * 2 ^ s = (2 ^ (64 - s) * (L / 2 ^ (64 - s)) + L % 2 ^ (64 - s)) * 2 ^ s:=by rw [e]
   rw [this,Nat.add_mul,Nat.mul_right_comm,p3,Nat.mul_comm 18446744073709551616]
  omega
 have hor:bits .or .u64 (IntKind.u64.wrap ((H:Int) * 2 ^ s)) ((L:Int) / 2 ^ (64 - s)) = ((H * 2 ^ s + L / 2 ^ (64 - s):Nat):Int):=by
  rw [IntKind.wrap_u64,c2,c4,show ((H * 2 ^ s:Nat):Int) % 18446744073709551616 = ((H * 2 ^ s:Nat):Int) by omega,u64_or_nat _ _ (by omega) (by omega),nat_join s _ _ (Nat.mul_mod_left _ _) d1]
 have htot:((H:Int) * 18446744073709551616 + L) * 2 ^ s = ((H * 2 ^ s:Nat):Int) * 18446744073709551616 + ((L * 2 ^ s:Nat):Int):=by
  rw [<- c2,<- c3,Int.add_mul,Int.mul_right_comm]
 rw [hor,htot,c1,c3]
 generalize Y * 2 ^ s = A at *
 generalize H * 2 ^ s = B at *
 generalize L * 2 ^ s = C at *
 generalize L / 2 ^ (64 - s) = D at *
 have wA:IntKind.u64.wrap (A:Int) = (A:Int):=by rw [IntKind.wrap_u64];omega
 have wC:IntKind.u64.wrap (C:Int) = ((C % 18446744073709551616:Nat):Int):=by rw [IntKind.wrap_u64];omega
 have aA:=and_low32 (A:Int) (by omega) (by omega)
 have aC:=and_low32 ((C % 18446744073709551616:Nat):Int) (by omega) (by omega)
 rw [wA,wC]
 exact ⟨A,_,_,_,_,_,_,rfl,rfl,aA,by omega,by omega,by omega,by omega,by omega,rfl,by omega,by omega,rfl,rfl,aC,by omega,by omega,by omega,by omega,rfl,by omega⟩
theorem div64_lo (lo y:Int) (w:World) (hl0:0 <= lo) (hl:lo < 18446744073709551616) (hy0:1 <= y) (hy:y < 4611686018427387904) :
  Calls Tryz.prog 120 #[.int .u64 0,.int .u64 lo,.int .u64 y] w fun e w'=>e = .returned (.tuple #[.int .u64 (lo / y),.int .u64 (lo % y)])/\w' = w.drew:=by
 have hyz:(y == 0) = false:=by simp;omega
 have hb1:0 <= lo / y:=Int.ediv_nonneg hl0 (by omega)
 have hb2:lo / y <= lo:=Int.ediv_le_self _ hl0
 go_enter Tryz.func120,Tryz.ntmps120
 go_wp2
 go_region
 all_goals go_wp2
 all_goals go_ret2
 all_goals exact ⟨rfl,rfl⟩
theorem div64_hi (hi lo y:Int) (w:World) (hh0:1 <= hi) (hh:hi < y) (hl0:0 <= lo) (hl:lo < 18446744073709551616) (hy:y < 4611686018427387904) :
  Calls Tryz.prog 120 #[.int .u64 hi,.int .u64 lo,.int .u64 y] w fun e w'=>e = .returned (.tuple #[.int .u64 ((hi * 18446744073709551616 + lo) / y),.int .u64 ((hi * 18446744073709551616 + lo) % y)])/\w' = w:=by
 have hyz:(y == 0) = false:=by simp;omega
 have hhz:(hi == 0) = false:=by simp;omega
 have hbl:=bitLen_le64 y (by omega) (by omega)
 obtain ⟨s,hs⟩:∃ s:Nat,(64:Int) - (bitLen y.toNat:Int) = s:=⟨64 - bitLen y.toNat,by omega⟩
 obtain ⟨hs1,hs2,Y,y1,y0,U1,L,u1,u0,hY,hy1,hy0,hYe,hy00,hy01,hy10,hy11,hU,hU0,hU1,hL,hu1,hu0,hu10,hu11,hu00,hu01,hYs,htot⟩:=norm_setup hi lo y s hs hh0 hh hl0 hl hy
 have YE:Hid (Y = y1 * 4294967296 + y0):=hYe
 have YS:Hid (Y = y * 2 ^ s):=hYs
 have TOT:Hid ((hi * 18446744073709551616 + lo) * 2 ^ s = U1 * 18446744073709551616 + u1 * 4294967296 + u0):=htot
 have HS:Hid (64 - (bitLen y.toNat:Int) = s):=hs
 clear hYe hYs htot
 obtain ⟨Q1,hQ10,hQ11,hQ1a,hQ1b⟩:=digit U1 u1 Y hU0 hU1 hu10 hu11
 obtain ⟨R,hR⟩:∃ R,R = U1 * 4294967296 + u1 - Q1 * Y:=⟨_,rfl⟩
 have hR0:0 <= R:=by omega
 have hR1:R < Y:=by have:=Int.add_mul Q1 1 Y;omega
 have hun:IntKind.u64.wrap (IntKind.u64.wrap (IntKind.u64.wrap (U1 * 4294967296) + u1) - IntKind.u64.wrap (Q1 * Y)) = R:=by
  simp only [IntKind.wrap_u64];omega
 obtain ⟨Q0,hQ00,hQ01,hQ0a,hQ0b⟩:=digit R u0 Y hR0 hR1 hu00 hu01
 obtain ⟨R0,hR0e⟩:∃ R0,R0 = R * 4294967296 + u0 - Q0 * Y:=⟨_,rfl⟩
 have hR00:0 <= R0:=by omega
 have hR01:R0 < Y:=by have:=Int.add_mul Q0 1 Y;omega
 have hun0:IntKind.u64.wrap (IntKind.u64.wrap (IntKind.u64.wrap (R * 4294967296) + u0) - IntKind.u64.wrap (Q0 * Y)) = R0:=by
  simp only [IntKind.wrap_u64];omega
 have FIN:Hid ((hi * 18446744073709551616 + lo) / y = Q1 * 4294967296 + Q0/\(hi * 18446744073709551616 + lo) % y = R0 / 2 ^ s):=by
  have a:=two_digits (Q1:=Q1) (Q0:=Q0) (U1:=U1) (u1:=u1) (u0:=u0) (Y:=Y) (by omega) hu00 hu01 hQ1a hQ1b (by rw [<- hR];exact hQ0a) (by rw [<- hR];exact hQ0b)
  rw [<- hR,<- hR0e,<- TOT.out,YS.out] at a
  have b:=scaled (n:=hi * 18446744073709551616 + lo) s (show 0 < y by omega)
  rw [a.1,a.2] at b
  exact ⟨b.1.symm,b.2.symm⟩
 have J0:Hid _:=inv_start (Q:=Q1) hU0 (by rw [<- YE.out];exact hU1) hu10 hu11 hy00 hy01 hy10 hQ10 (by rw [<- YE.out];exact hQ1a)
 have K0:Hid _:=inv_start (Q:=Q0) hR0 (by rw [<- YE.out];exact hR1) hu00 hu01 hy00 hy01 hy10 hQ00 (by rw [<- YE.out];exact hQ0a)
 have QA:Hid (Q1 * (y1 * 4294967296 + y0) <= U1 * 4294967296 + u1):=by rw [<- YE.out];exact hQ1a
 have QB:Hid (U1 * 4294967296 + u1 < (Q1 + 1) * (y1 * 4294967296 + y0)):=by rw [<- YE.out];exact hQ1b
 have PA:Hid (Q0 * (y1 * 4294967296 + y0) <= R * 4294967296 + u0):=by rw [<- YE.out];exact hQ0a
 have PB:Hid (R * 4294967296 + u0 < (Q0 + 1) * (y1 * 4294967296 + y0)):=by rw [<- YE.out];exact hQ0b
 have hU1':Hid (U1 < y1 * 4294967296 + y0):=by rw [<- YE.out];exact hU1
 have hR1':Hid (R < y1 * 4294967296 + y0):=by rw [<- YE.out];exact hR1
 have hqb:0 <= U1 / y1/\U1 / y1 <= 4294967297:=by have:=J0.out.1.2.2;omega
 have hqb0:0 <= R / y1/\R / y1 <= 4294967297:=by have:=K0.out.1.2.2;omega
 have hrh:IntKind.u64.wrap (U1 - IntKind.u64.wrap (U1 / y1 * y1)) = U1 % y1:=by
  have a:=J0.out.1.1;have b:=J0.out.2;have c:=J0.out.1.2.1;simp only [IntKind.wrap_u64];omega
 have hrh0:IntKind.u64.wrap (R - IntKind.u64.wrap (R / y1 * y1)) = R % y1:=by
  have a:=K0.out.1.1;have b:=K0.out.2;have c:=K0.out.1.2.1;simp only [IntKind.wrap_u64];omega
 have HR:Hid (R = U1 * 4294967296 + u1 - Q1 * Y):=hR
 clear hQ1a hQ1b hQ0a hQ0b hR hR0e
 have STEP:Hid (∀ q r:Int,Inv U1 y1 Q1 q r->r < 4294967296->(4294967296 <= q \/ 4294967296 * r + u1 < q * y0)->Inv U1 y1 Q1 (q - 1) (r + y1)/\(4294967296 <= r + y1->q - 1 = Q1)):=by
  intro q r hI _ hc
  have h:=inv_step hU1'.out hu10 hu11 hy00 hy10 QA.out hI hc
  exact ⟨h,fun g=>inv_break hy00 hy01 hy10 hu10 QB.out h (by have:=hI.2.2.2;omega) g⟩
 have STEP0:Hid (∀ q r:Int,Inv R y1 Q0 q r->r < 4294967296->(4294967296 <= q \/ 4294967296 * r + u0 < q * y0)->Inv R y1 Q0 (q - 1) (r + y1)/\(4294967296 <= r + y1->q - 1 = Q0)):=by
  intro q r hI _ hc
  have h:=inv_step hR1'.out hu00 hu01 hy00 hy10 PA.out hI hc
  exact ⟨h,fun g=>inv_break hy00 hy01 hy10 hu00 PB.out h (by have:=hI.2.2.2;omega) g⟩
 have hm:Hid (∀ q:Int,0 <= q->q < 4294967296->0 <= q * y0/\q * y0 < 18446744073709551616):=by
  intro q a b
  have:=Int.mul_nonneg a hy00
  have:=Int.mul_le_mul (show q <= 4294967295 by omega) (show y0 <= 4294967295 by omega) hy00 (by omega)
  omega
 go_enter Tryz.func120,Tryz.ntmps120
 go_wp2_with (go_at_call 142;refine (lz64_any y _ (by omega) (by omega)).mono ?_;rintro e w' ⟨rfl,rfl⟩)
 go_loop [15,16] (fun a b=>∃ q r:Int,a = .int .u64 q/\b = .int .u64 r/\Hid (Inv U1 y1 Q1 q r)/\r < 4294967296) (fun a _=>(intOf a).toNat)
 case atStart=>exact ⟨_,_,rfl,rfl,J0.out.1,by have:=J0.out.2;omega⟩
 case round =>
  obtain ⟨q,r,rfl,rfl,HI,hr⟩:=hrel
  have hI:=HI.out
  have hq0:Q1 <= q:=hI.2.2.1
  have hq1:q <= 4294967297:=hI.2.2.2
  have hr0:0 <= r:=hI.2.1
  clear hI
  have hmq:=hm.out q (by omega)
  by_cases hA:4294967296 <= q
  ·have hS:=STEP.out q r HI.out hr (Or.inl hA)
   have S1:Hid (Inv U1 y1 Q1 (q - 1) (r + y1)):=hS.1
   have hq2:Q1 <= q - 1:=hS.1.2.2.1
   clear hmq
   by_cases hbr:4294967296 <= r + y1
   ·obtain rfl:q = Q1 + 1:=by have:=hS.2 hbr;omega
    clear hS
    go_wp2
    go_loop [18,16] (fun a b=>∃ q r:Int,a = .int .u64 q/\b = .int .u64 r/\Hid (Inv R y1 Q0 q r)/\r < 4294967296) (fun a _=>(intOf a).toNat)
    case atStart=>exact ⟨_,_,rfl,rfl,K0.out.1,by have:=K0.out.2;omega⟩
    case round =>
     obtain ⟨p,t,rfl,rfl,HI0,ht⟩:=hrel
     have hI:=HI0.out
     have hp0:Q0 <= p:=hI.2.2.1
     have hp1:p <= 4294967297:=hI.2.2.2
     have ht0:0 <= t:=hI.2.1
     clear hI
     by_cases hA0:4294967296 <= p
     ·have hS:=STEP0.out p t HI0.out ht (Or.inl hA0)
      have S1:Hid (Inv R y1 Q0 (p - 1) (t + y1)):=hS.1
      have hp2:Q0 <= p - 1:=hS.1.2.2.1
      by_cases hbr0:4294967296 <= t + y1
      ·obtain rfl:p = Q0 + 1:=by have:=hS.2 hbr0;omega
       clear hS
       go_wp2
       go_ret2
       refine ⟨?_,rfl⟩
       rw [FIN.out.1,FIN.out.2]
       rfl
      ·clear hS
       go_wp2
       go_round
       case rel=>exact ⟨_,_,rfl,rfl,S1,by omega⟩
       case measure=>simp [intOf];omega
     ·have hmq:=hm.out p (by omega) (by omega)
      by_cases hB0:4294967296 * t + u0 < p * y0
      ·have hS:=STEP0.out p t HI0.out ht (Or.inr hB0)
       have S1:Hid (Inv R y1 Q0 (p - 1) (t + y1)):=hS.1
       have hp2:Q0 <= p - 1:=hS.1.2.2.1
       by_cases hbr0:4294967296 <= t + y1
       ·obtain rfl:p = Q0 + 1:=by have:=hS.2 hbr0;omega
        clear hS
        go_wp2
        go_ret2
        refine ⟨?_,rfl⟩
        rw [FIN.out.1,FIN.out.2]
        rfl
       ·clear hS
        go_wp2
        go_round
        case rel=>exact ⟨_,_,rfl,rfl,S1,by omega⟩
        case measure=>simp [intOf];omega
      ·obtain rfl:p = Q0:=inv_end hy00 hy10 PB.out HI0.out (by omega)
       go_wp2
       go_ret2
       refine ⟨?_,rfl⟩
       rw [FIN.out.1,FIN.out.2]
       rfl
   ·clear hS
    go_wp2
    go_round
    case rel=>exact ⟨_,_,rfl,rfl,S1,by omega⟩
    case measure=>simp [intOf];omega
  ·have hmq:=hmq (by omega)
   by_cases hB:4294967296 * r + u1 < q * y0
   ·have hS:=STEP.out q r HI.out hr (Or.inr hB)
    have S1:Hid (Inv U1 y1 Q1 (q - 1) (r + y1)):=hS.1
    have hq2:Q1 <= q - 1:=hS.1.2.2.1
    by_cases hbr:4294967296 <= r + y1
    ·obtain rfl:q = Q1 + 1:=by have:=hS.2 hbr;omega
     clear hS
     go_wp2
     go_loop [18,16] (fun a b=>∃ q r:Int,a = .int .u64 q/\b = .int .u64 r/\Hid (Inv R y1 Q0 q r)/\r < 4294967296) (fun a _=>(intOf a).toNat)
     case atStart=>exact ⟨_,_,rfl,rfl,K0.out.1,by have:=K0.out.2;omega⟩
     case round =>
      obtain ⟨p,t,rfl,rfl,HI0,ht⟩:=hrel
      have hI:=HI0.out
      have hp0:Q0 <= p:=hI.2.2.1
      have hp1:p <= 4294967297:=hI.2.2.2
      have ht0:0 <= t:=hI.2.1
      clear hI
      by_cases hA0:4294967296 <= p
      ·have hS:=STEP0.out p t HI0.out ht (Or.inl hA0)
       have S1:Hid (Inv R y1 Q0 (p - 1) (t + y1)):=hS.1
       have hp2:Q0 <= p - 1:=hS.1.2.2.1
       by_cases hbr0:4294967296 <= t + y1
       ·obtain rfl:p = Q0 + 1:=by have:=hS.2 hbr0;omega
        clear hS
        go_wp2
        go_ret2
        refine ⟨?_,rfl⟩
        rw [FIN.out.1,FIN.out.2]
        rfl
       ·clear hS
        go_wp2
        go_round
        case rel=>exact ⟨_,_,rfl,rfl,S1,by omega⟩
        case measure=>simp [intOf];omega
      ·have hmq:=hm.out p (by omega) (by omega)
       by_cases hB0:4294967296 * t + u0 < p * y0
       ·have hS:=STEP0.out p t HI0.out ht (Or.inr hB0)
        have S1:Hid (Inv R y1 Q0 (p - 1) (t + y1)):=hS.1
        have hp2:Q0 <= p - 1:=hS.1.2.2.1
        by_cases hbr0:4294967296 <= t + y1
        ·obtain rfl:p = Q0 + 1:=by have:=hS.2 hbr0;omega
         clear hS
         go_wp2
         go_ret2
         refine ⟨?_,rfl⟩
         rw [FIN.out.1,FIN.out.2]
         rfl
        ·clear hS
         go_wp2
         go_round
         case rel=>exact ⟨_,_,rfl,rfl,S1,by omega⟩
         case measure=>simp [intOf];omega
       ·obtain rfl:p = Q0:=inv_end hy00 hy10 PB.out HI0.out (by omega)
        go_wp2
        go_ret2
        refine ⟨?_,rfl⟩
        rw [FIN.out.1,FIN.out.2]
        rfl
    ·clear hS
     go_wp2
     go_round
     case rel=>exact ⟨_,_,rfl,rfl,S1,by omega⟩
     case measure=>simp [intOf];omega
   ·obtain rfl:q = Q1:=inv_end hy00 hy10 QB.out HI.out (by omega)
    go_wp2
    go_loop [18,16] (fun a b=>∃ q r:Int,a = .int .u64 q/\b = .int .u64 r/\Hid (Inv R y1 Q0 q r)/\r < 4294967296) (fun a _=>(intOf a).toNat)
    case atStart=>exact ⟨_,_,rfl,rfl,K0.out.1,by have:=K0.out.2;omega⟩
    case round =>
     obtain ⟨p,t,rfl,rfl,HI0,ht⟩:=hrel
     have hI:=HI0.out
     have hp0:Q0 <= p:=hI.2.2.1
     have hp1:p <= 4294967297:=hI.2.2.2
     have ht0:0 <= t:=hI.2.1
     clear hI
     by_cases hA0:4294967296 <= p
     ·have hS:=STEP0.out p t HI0.out ht (Or.inl hA0)
      have S1:Hid (Inv R y1 Q0 (p - 1) (t + y1)):=hS.1
      have hp2:Q0 <= p - 1:=hS.1.2.2.1
      by_cases hbr0:4294967296 <= t + y1
      ·obtain rfl:p = Q0 + 1:=by have:=hS.2 hbr0;omega
       clear hS
       go_wp2
       go_ret2
       refine ⟨?_,rfl⟩
       rw [FIN.out.1,FIN.out.2]
       rfl
      ·clear hS
       go_wp2
       go_round
       case rel=>exact ⟨_,_,rfl,rfl,S1,by omega⟩
       case measure=>simp [intOf];omega
     ·have hmq:=hm.out p (by omega) (by omega)
      by_cases hB0:4294967296 * t + u0 < p * y0
      ·have hS:=STEP0.out p t HI0.out ht (Or.inr hB0)
       have S1:Hid (Inv R y1 Q0 (p - 1) (t + y1)):=hS.1
       have hp2:Q0 <= p - 1:=hS.1.2.2.1
       by_cases hbr0:4294967296 <= t + y1
       ·obtain rfl:p = Q0 + 1:=by have:=hS.2 hbr0;omega
        clear hS
        go_wp2
        go_ret2
        refine ⟨?_,rfl⟩
        rw [FIN.out.1,FIN.out.2]
        rfl
       ·clear hS
        go_wp2
        go_round
        case rel=>exact ⟨_,_,rfl,rfl,S1,by omega⟩
        case measure=>simp [intOf];omega
      ·obtain rfl:p = Q0:=inv_end hy00 hy10 PB.out HI0.out (by omega)
       go_wp2
       go_ret2
       refine ⟨?_,rfl⟩
       rw [FIN.out.1,FIN.out.2]
       rfl
end
section
open Go.RowKit Fx
theorem i64_mul_lt (a b:Int) (ha0:0 <= a) (ha:a < 9223372036854775808) (hb0:0 <= b) (hb:b < 9223372036854775808):0 <= a * b/\a * b < 85070591730234615865843651857942052864:=by
 have h1:=Int.mul_nonneg ha0 hb0
 have h2:=Int.mul_le_mul (show a <= 9223372036854775807 by omega) (show b <= 9223372036854775807 by omega) hb0 (by omega)
 omega
theorem product_any (a b:Int) (w:World) (ha0:-9223372036854775808 <= a) (ha:a < 9223372036854775808) (hb0:-9223372036854775808 <= b) (hb:b < 9223372036854775808) :
  Calls Tryz.prog 84 #[.int .i64 a,.int .i64 b] w fun e w'=>e = .returned (.agg #[.int .u64 (a * b / 18446744073709551616 % 18446744073709551616),.int .u64 (a * b % 18446744073709551616)])/\Below w.heap.size w w':=by
 by_cases ga:a < 0
 ·obtain ⟨ua,hua⟩:∃ u,u = a + 18446744073709551616:=⟨_,rfl⟩
  have hwa:IntKind.u64.wrap a = ua:=by rw [IntKind.wrap_u64];omega
  have hu0:0 <= ua:=by omega
  have hu1:ua < 18446744073709551616:=by omega
  by_cases gb:b < 0
  ·obtain ⟨ub,hub⟩:∃ u,u = b + 18446744073709551616:=⟨_,rfl⟩
   have hwb:IntKind.u64.wrap b = ub:=by rw [IntKind.wrap_u64];omega
   have hv0:0 <= ub:=by omega
   have hv1:ub < 18446744073709551616:=by omega
   have hq:IntKind.u64.wrap (IntKind.u64.wrap (ua * ub / 18446744073709551616 - ub) - ua) = a * b / 18446744073709551616 % 18446744073709551616:=by
    rw [hua,hub,Int.add_mul,Int.mul_add,IntKind.wrap_u64,IntKind.wrap_u64];omega
   have hm:ua * ub % 18446744073709551616 = a * b % 18446744073709551616:=by rw [hua,hub,Int.add_mul,Int.mul_add];omega
   clear hua hub
   go_enter Tryz.func84,Tryz.ntmps84
   go_wp2_with (go_at_call 118;refine (mul64_any _ _ _ ?_ ?_ ?_ ?_).mono ?_;(omega);(omega);(omega);(omega);rintro e w' ⟨rfl,rfl⟩)
   go_returns
   exact ⟨rfl,by go_grown⟩
  ·have hq:IntKind.u64.wrap (ua * b / 18446744073709551616 - b) = a * b / 18446744073709551616 % 18446744073709551616:=by
    rw [hua,Int.add_mul,IntKind.wrap_u64];omega
   have hm:ua * b % 18446744073709551616 = a * b % 18446744073709551616:=by rw [hua,Int.add_mul];omega
   clear hua
   go_enter Tryz.func84,Tryz.ntmps84
   go_wp2_with (go_at_call 118;refine (mul64_any _ _ _ ?_ ?_ ?_ ?_).mono ?_;(omega);(omega);(omega);(omega);rintro e w' ⟨rfl,rfl⟩)
   go_returns
   exact ⟨rfl,by go_grown⟩
 ·by_cases gb:b < 0
  ·obtain ⟨ub,hub⟩:∃ u,u = b + 18446744073709551616:=⟨_,rfl⟩
   have hwb:IntKind.u64.wrap b = ub:=by rw [IntKind.wrap_u64];omega
   have hv0:0 <= ub:=by omega
   have hv1:ub < 18446744073709551616:=by omega
   have hq:IntKind.u64.wrap (a * ub / 18446744073709551616 - a) = a * b / 18446744073709551616 % 18446744073709551616:=by
    rw [hub,Int.mul_add,IntKind.wrap_u64];omega
   have hm:a * ub % 18446744073709551616 = a * b % 18446744073709551616:=by rw [hub,Int.mul_add];omega
   clear hub
   go_enter Tryz.func84,Tryz.ntmps84
   go_wp2_with (go_at_call 118;refine (mul64_any _ _ _ ?_ ?_ ?_ ?_).mono ?_;(omega);(omega);(omega);(omega);rintro e w' ⟨rfl,rfl⟩)
   go_returns
   exact ⟨rfl,by go_grown⟩
  ·have hp:=i64_mul_lt a b (by omega) ha (by omega) hb
   have hq:a * b / 18446744073709551616 % 18446744073709551616 = a * b / 18446744073709551616:=by omega
   go_enter Tryz.func84,Tryz.ntmps84
   go_wp2_with (go_at_call 118;refine (mul64_any _ _ _ ?_ ?_ ?_ ?_).mono ?_;(omega);(omega);(omega);(omega);rintro e w' ⟨rfl,rfl⟩)
   go_returns
   exact ⟨by rw [hq],by go_grown⟩
theorem ret_bool {a b:Bool} (h:a = b):Ending.returned (.bool a) = .returned (.bool b):=by rw [h]
theorem below0_any (X:Int) (w:World) (h0:-170141183460469231731687303715884105728 <= X) (h1:X < 170141183460469231731687303715884105728) :
  Calls Tryz.prog 121 #[.agg #[.int .u64 (X / 18446744073709551616 % 18446744073709551616),.int .u64 (X % 18446744073709551616)]] w fun e w' =>
   e = .returned (.bool (decide (X < 0)))/\Below w.heap.size w w':=by
 go_enter Tryz.func121,Tryz.ntmps121
 go_wp2
 go_returns
 refine ⟨ret_bool ?_,by go_grown⟩
 rw [decide_eq_decide]
 unfold wrap64
 omega
theorem size_any (X Z:Int) (w:World) (h0:-170141183460469231731687303715884105728 < X) (h1:X < 170141183460469231731687303715884105728) (hZ:(0 <= X/\Z = X) \/ (X < 0/\Z = -X)) :
  Calls Tryz.prog 119 #[.agg #[.int .u64 (X / 18446744073709551616 % 18446744073709551616),.int .u64 (X % 18446744073709551616)]] w fun e w' =>
   e = .returned (.agg #[.int .u64 (Z / 18446744073709551616 % 18446744073709551616),.int .u64 (Z % 18446744073709551616)])/\Below w.heap.size w w':=by
 obtain ⟨h,hh⟩:∃ u,u = X / 18446744073709551616 % 18446744073709551616:=⟨_,rfl⟩
 obtain ⟨l,hl⟩:∃ u,u = X % 18446744073709551616:=⟨_,rfl⟩
 rcases hZ with ⟨g,rfl⟩ | ⟨g,hZ⟩
 ·rw [<- hl,<- hh]
  have hn:¬ wrap64 h < 0:=by unfold wrap64;omega
  clear hl hh
  go_enter Tryz.func119,Tryz.ntmps119
  go_wp2
  go_returns
  exact ⟨rfl,by go_grown⟩
 ·rw [<- hl,<- hh]
  have hn:wrap64 h < 0:=by unfold wrap64;omega
  by_cases gl:l = 0
  ·have r1:=fun w=>sub64_run 0 l 0 w (by omega) (by omega) (by omega) (by omega) (by omega) (by omega)
   have r2:=fun w=>sub64_run 0 h 0 w (by omega) (by omega) (by omega) (by omega) (by omega) (by omega)
   have e1:(0 - h - 0) % 18446744073709551616 = Z / 18446744073709551616 % 18446744073709551616:=by omega
   have e2:(0 - l - 0) % 18446744073709551616 = Z % 18446744073709551616:=by omega
   rw [if_neg (by omega)] at r1
   rw [e2] at r1
   rw [e1,if_pos (by omega)] at r2
   clear hl hh hZ e1 e2 gl
   go_enter Tryz.func119,Tryz.ntmps119
   go_wp2
   go_returns
   exact ⟨rfl,by go_grown⟩
  ·have r1:=fun w=>sub64_run 0 l 0 w (by omega) (by omega) (by omega) (by omega) (by omega) (by omega)
   have r2:=fun w=>sub64_run 0 h 1 w (by omega) (by omega) (by omega) (by omega) (by omega) (by omega)
   have e1:(0 - h - 1) % 18446744073709551616 = Z / 18446744073709551616 % 18446744073709551616:=by omega
   have e2:(0 - l - 0) % 18446744073709551616 = Z % 18446744073709551616:=by omega
   rw [if_pos (by omega)] at r1
   rw [e2] at r1
   rw [e1,if_pos (by omega)] at r2
   clear hl hh hZ e1 e2 gl
   go_enter Tryz.func119,Tryz.ntmps119
   go_wp2
   go_returns
   exact ⟨rfl,by go_grown⟩
theorem div64_any (hi lo y:Int) (w:World) (hh0:0 <= hi) (hh:hi < y) (hl0:0 <= lo) (hl:lo < 18446744073709551616) (hy:y < 4611686018427387904) :
  Calls Tryz.prog 120 #[.int .u64 hi,.int .u64 lo,.int .u64 y] w fun e w'=>e = .returned (.tuple #[.int .u64 ((hi * 18446744073709551616 + lo) / y),.int .u64 ((hi * 18446744073709551616 + lo) % y)])/\∃ n,w' = w.drewN n:=by
 rcases Int.lt_or_eq_of_le hh0 with h | h
 ·exact (div64_hi hi lo y w (by omega) hh hl0 hl hy).mono fun e w' ⟨a,b⟩=>⟨a,0,by rw [b];rfl⟩
 ·subst h
  exact (div64_lo lo y w hl0 hl (by omega) hy).mono fun e w' ⟨a,b⟩=>⟨by rw [a];simp,1,by rw [b];rfl⟩
end
section
open Go.RowKit Fx
theorem below0_neg (X:Int) (w:World) (h0:-170141183460469231731687303715884105728 <= X) (g:X < 0) :
  Calls Tryz.prog 121 #[.agg #[.int .u64 (X / 18446744073709551616 % 18446744073709551616),.int .u64 (X % 18446744073709551616)]] w fun e w' =>
   e = .returned (.bool true)/\Below w.heap.size w w':=by
 simpa [g] using below0_any X w h0 (by omega)
theorem below0_pos (X:Int) (w:World) (h1:X < 170141183460469231731687303715884105728) (g:0 <= X) :
  Calls Tryz.prog 121 #[.agg #[.int .u64 (X / 18446744073709551616 % 18446744073709551616),.int .u64 (X % 18446744073709551616)]] w fun e w' =>
   e = .returned (.bool false)/\Below w.heap.size w w':=by
 simpa [show ¬ X < 0 by omega] using below0_any X w (by omega) h1
theorem boxed {W w1:World} {u v:Value} {t:TypeId} (hb:Below (W.alloc (.cells #[u,v] t)).heap.size (W.alloc (.cells #[u,v] t)) w1) :
  w1.cell? ⟨W.heap.size,0,none⟩ = some u/\w1.cell? ⟨W.heap.size,1,none⟩ = some v/\W.heap.size < w1.heap.size:=by
 refine ⟨?_,?_,?_⟩
 ·rw [hb.cell (by simp)];simp
 ·rw [hb.cell (by simp)];simp
 ·have:=hb.size;simp at this;omega
theorem by_world {w w1 w3:World} {o o':Obj} {n:Nat} (hb:Below (w.alloc o).heap.size (w.alloc o) w1) (hb3:Below ((w1.alloc o').drewN n).heap.size ((w1.alloc o').drewN n) w3):Below w.heap.size w w3:=by
 have a:Below w.heap.size w (w.alloc o):=(Below.refl _ _).alloc (Nat.le_refl _) _
 have s1:=hb.size
 have b:Below w.heap.size w w1:=a.trans (hb.mono (by simp))
 have c:Below w.heap.size w ((w1.alloc o').drewN n):=below_drewN (b.alloc (by simp at s1;omega) _) n
 exact c.trans (hb3.mono (by simp;simp at s1;omega))
theorem by_any (X c Z d:Int) (w:World) (h0:-170141183460469231731687303715884105728 < X) (h1:X < 170141183460469231731687303715884105728)
  (hZ:(0 <= X/\Z = X) \/ (X < 0/\Z = -X)) (hd:(0 < c/\d = c) \/ (c < 0/\d = -c)) (hc:d <= 4611686018427387903) (hn:Z / d <= 4611686018427387903) :
  Calls Tryz.prog 85 #[.agg #[.int .u64 (X / 18446744073709551616 % 18446744073709551616),.int .u64 (X % 18446744073709551616)],.int .i64 c] w fun e w' =>
   e = .returned (.tuple #[.int .i64 (fl X c),.bool true])/\Below w.heap.size w w':=by
 obtain ⟨xh,hxh⟩:∃ u,u = X / 18446744073709551616 % 18446744073709551616:=⟨_,rfl⟩
 obtain ⟨xl,hxl⟩:∃ u,u = X % 18446744073709551616:=⟨_,rfl⟩
 obtain ⟨zh,hzh⟩:∃ u,u = Z / 18446744073709551616 % 18446744073709551616:=⟨_,rfl⟩
 obtain ⟨zl,hzl⟩:∃ u,u = Z % 18446744073709551616:=⟨_,rfl⟩
 have hd0:0 < d:=by omega
 have hZ0:0 <= Z:=by omega
 have hZe:zh * 18446744073709551616 + zl = Z:=by omega
 obtain ⟨n,hne⟩:∃ n,Z / d = n:=⟨_,rfl⟩
 obtain ⟨r,hre⟩:∃ r,Z % d = r:=⟨_,rfl⟩
 have hn0:0 <= n:=by rw [<- hne];exact Int.ediv_nonneg hZ0 (by omega)
 rw [hne] at hn
 have hzd:zh < d:=by
  have h:=(div_is Z d hd0).2
  rw [hne] at h
  have g:(n + 1) * d <= 4611686018427387904 * d:=Int.mul_le_mul_of_nonneg_right (by omega) (by omega)
  omega
 have hz0:0 <= zh:=by omega
 have hl0:0 <= zl:=by omega
 have hl1:zl < 18446744073709551616:=by omega
 have hr0:0 <= r:=by rw [<- hre];exact Int.emod_nonneg _ (by omega)
 have CS:Hid _:=fun w=>size_any X Z w h0 h1 hZ
 have CD:Hid _:=fun w=>div64_any zh zl d w hz0 hzd hl0 hl1 (by omega)
 have NEG:Hid ((-Z) / d = if r = 0 then -n else -(n + 1)):=by rw [<- hne,<- hre];exact neg_div hd0
 have hdr:Hid (r < d):=by rw [<- hre];exact Int.emod_lt_of_pos _ hd0
 simp only [Hid] at CS CD
 rw [hZe,hne,hre] at CD
 rcases hZ with ⟨gX,eZ⟩ | ⟨gX,eZ⟩
 ·have CB:=fun w=>below0_pos X w h1 gX
  rw [<- hxh,<- hxl] at *
  rw [<- hzh,<- hzl] at CS
  have CS:Hid _:=CS
  have CD:Hid _:=CD
  have CB:Hid _:=CB
  rcases hd with ⟨gc,ed⟩ | ⟨gc,ed⟩
  ·have hfl:fl X c = n:=by unfold fl;rw [if_neg (by omega),<- hne,eZ,ed]
   rw [hfl]
   have hdec:decide (c < 0) = false:=by simp;omega
   subst ed
   clear hxh hxl hzh hzl hZe hne hre eZ hfl h0 h1 NEG
   go_enter Tryz.func85,Tryz.ntmps85
   go_wp2_with (first | (go_at_call 119;refine (CS.out _).mono ?_;rintro e w1 ⟨rfl,hb⟩;obtain ⟨c1,c2,hsz⟩:=boxed hb) | (go_at_call 120;refine (CD.out _).mono ?_;rintro e w2 ⟨rfl,nn,rfl⟩) | (go_at_call 121;refine (CB.out _).mono ?_;rintro e w3 ⟨rfl,hb3⟩))
   go_returns
   exact ⟨rfl,by_world hb hb3⟩
  ·have hfl:fl X c = if r = 0 then -n else -(n + 1):=by unfold fl;rw [if_pos (by omega),<- eZ,<- ed];exact NEG.out
   rw [hfl]
   subst ed
   clear hxh hxl hzh hzl hZe hne hre eZ hfl h0 h1 NEG
   by_cases gr:r = 0
   ·rw [if_pos gr]
    have gr':(r != 0) = false:=by simp [gr]
    clear gr
    go_enter Tryz.func85,Tryz.ntmps85
    go_wp2_with (first | (go_at_call 119;refine (CS.out _).mono ?_;rintro e w1 ⟨rfl,hb⟩;obtain ⟨c1,c2,hsz⟩:=boxed hb) | (go_at_call 120;refine (CD.out _).mono ?_;rintro e w2 ⟨rfl,nn,rfl⟩) | (go_at_call 121;refine (CB.out _).mono ?_;rintro e w3 ⟨rfl,hb3⟩))
    go_returns
    exact ⟨rfl,by_world hb hb3⟩
   ·rw [if_neg gr]
    have gr':(r != 0) = true:=by simp [gr]
    clear gr
    go_enter Tryz.func85,Tryz.ntmps85
    go_wp2_with (first | (go_at_call 119;refine (CS.out _).mono ?_;rintro e w1 ⟨rfl,hb⟩;obtain ⟨c1,c2,hsz⟩:=boxed hb) | (go_at_call 120;refine (CD.out _).mono ?_;rintro e w2 ⟨rfl,nn,rfl⟩) | (go_at_call 121;refine (CB.out _).mono ?_;rintro e w3 ⟨rfl,hb3⟩))
    go_returns
    exact ⟨rfl,by_world hb hb3⟩
 ·have CB:=fun w=>below0_neg X w (by omega) gX
  rw [<- hxh,<- hxl] at *
  rw [<- hzh,<- hzl] at CS
  have CS:Hid _:=CS
  have CD:Hid _:=CD
  have CB:Hid _:=CB
  rcases hd with ⟨gc,ed⟩ | ⟨gc,ed⟩
  ·have hfl:fl X c = if r = 0 then -n else -(n + 1):=by unfold fl;rw [if_neg (by omega),show X = -Z by omega,<- ed];exact NEG.out
   rw [hfl]
   subst ed
   clear hxh hxl hzh hzl hZe hne hre eZ hfl h0 h1 NEG
   by_cases gr:r = 0
   ·rw [if_pos gr]
    have gr':(r != 0) = false:=by simp [gr]
    clear gr
    go_enter Tryz.func85,Tryz.ntmps85
    go_wp2_with (first | (go_at_call 119;refine (CS.out _).mono ?_;rintro e w1 ⟨rfl,hb⟩;obtain ⟨c1,c2,hsz⟩:=boxed hb) | (go_at_call 120;refine (CD.out _).mono ?_;rintro e w2 ⟨rfl,nn,rfl⟩) | (go_at_call 121;refine (CB.out _).mono ?_;rintro e w3 ⟨rfl,hb3⟩))
    go_returns
    exact ⟨rfl,by_world hb hb3⟩
   ·rw [if_neg gr]
    have gr':(r != 0) = true:=by simp [gr]
    clear gr
    go_enter Tryz.func85,Tryz.ntmps85
    go_wp2_with (first | (go_at_call 119;refine (CS.out _).mono ?_;rintro e w1 ⟨rfl,hb⟩;obtain ⟨c1,c2,hsz⟩:=boxed hb) | (go_at_call 120;refine (CD.out _).mono ?_;rintro e w2 ⟨rfl,nn,rfl⟩) | (go_at_call 121;refine (CB.out _).mono ?_;rintro e w3 ⟨rfl,hb3⟩))
    go_returns
    exact ⟨rfl,by_world hb hb3⟩
  ·have hfl:fl X c = n:=by unfold fl;rw [if_pos (by omega),<- hne,eZ,ed]
   rw [hfl]
   subst ed
   clear hxh hxl hzh hzl hZe hne hre eZ hfl h0 h1 NEG
   go_enter Tryz.func85,Tryz.ntmps85
   go_wp2_with (first | (go_at_call 119;refine (CS.out _).mono ?_;rintro e w1 ⟨rfl,hb⟩;obtain ⟨c1,c2,hsz⟩:=boxed hb) | (go_at_call 120;refine (CD.out _).mono ?_;rintro e w2 ⟨rfl,nn,rfl⟩) | (go_at_call 121;refine (CB.out _).mono ?_;rintro e w3 ⟨rfl,hb3⟩))
   go_returns
   exact ⟨rfl,by_world hb hb3⟩
theorem by_none (X c Z d:Int) (w:World) (h0:-170141183460469231731687303715884105728 < X) (h1:X < 170141183460469231731687303715884105728)
  (hZ:(0 <= X/\Z = X) \/ (X < 0/\Z = -X)) (hd:(0 < c/\d = c) \/ (c < 0/\d = -c)) (hc:d <= 4611686018427387903) (hn:4611686018427387903 < Z / d) :
  Calls Tryz.prog 85 #[.agg #[.int .u64 (X / 18446744073709551616 % 18446744073709551616),.int .u64 (X % 18446744073709551616)],.int .i64 c] w fun e w' =>
   e = .returned (.tuple #[.int .i64 0,.bool false])/\Below w.heap.size w w':=by
 obtain ⟨xh,hxh⟩:∃ u,u = X / 18446744073709551616 % 18446744073709551616:=⟨_,rfl⟩
 obtain ⟨xl,hxl⟩:∃ u,u = X % 18446744073709551616:=⟨_,rfl⟩
 obtain ⟨zh,hzh⟩:∃ u,u = Z / 18446744073709551616 % 18446744073709551616:=⟨_,rfl⟩
 obtain ⟨zl,hzl⟩:∃ u,u = Z % 18446744073709551616:=⟨_,rfl⟩
 have hd0:0 < d:=by omega
 have hZ0:0 <= Z:=by omega
 have hZe:zh * 18446744073709551616 + zl = Z:=by omega
 obtain ⟨n,hne⟩:∃ n,Z / d = n:=⟨_,rfl⟩
 obtain ⟨r,hre⟩:∃ r,Z % d = r:=⟨_,rfl⟩
 rw [hne] at hn
 have hz0:0 <= zh:=by omega
 have hl0:0 <= zl:=by omega
 have hl1:zl < 18446744073709551616:=by omega
 have hr0:0 <= r:=by rw [<- hre];exact Int.emod_nonneg _ (by omega)
 have CS:=fun w=>size_any X Z w h0 h1 hZ
 rw [<- hxh,<- hxl] at *
 rw [<- hzh,<- hzl] at CS
 by_cases hzd:zh < d
 ·have CD:=fun w=>div64_any zh zl d w hz0 hzd hl0 hl1 (by omega)
  rw [hZe,hne,hre] at CD
  have CS:Hid _:=CS
  have CD:Hid _:=CD
  clear hxh hxl hzh hzl hZe hne hre h0 h1 hZ
  rcases hd with ⟨gc,ed⟩ | ⟨gc,ed⟩ <;> subst ed
  all_goals
   go_enter Tryz.func85,Tryz.ntmps85
   go_wp2_with (first | (go_at_call 119;refine (CS.out _).mono ?_;rintro e w1 ⟨rfl,hb⟩;obtain ⟨c1,c2,hsz⟩:=boxed hb) | (go_at_call 120;refine (CD.out _).mono ?_;rintro e w2 ⟨rfl,nn,rfl⟩))
   go_returns
   exact ⟨rfl,by_world hb (Below.refl _ _)⟩
 ·have CS:Hid _:=CS
  clear hxh hxl hzh hzl hZe hne hre h0 h1 hZ
  rcases hd with ⟨gc,ed⟩ | ⟨gc,ed⟩ <;> subst ed
  all_goals
   go_enter Tryz.func85,Tryz.ntmps85
   go_wp2_with (first | (go_at_call 119;refine (CS.out _).mono ?_;rintro e w1 ⟨rfl,hb⟩;obtain ⟨c1,c2,hsz⟩:=boxed hb))
   go_returns
   exact ⟨rfl,by_world (n:=0) hb (Below.refl _ _)⟩
end
end Go.Proofs.YtablgiflakncfaaGreat
