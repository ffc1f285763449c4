/- A hull's sides. -/
import Derived.Test.YtlhhmiicpddjoaaGreatSPRight0
import Derived.Test.YtlhhmiicpddjoaaGreatSPRight1
import Derived.WalkMore
set_option maxHeartbeats 2000000
set_option maxRecDepth 100000
set_option linter.unusedVariables false
namespace Go.Proofs.YtlhhmiicpddjoaaGreat
section
open Go.RowKit Go.Shelf
theorem Box3.grown {w W:World} {b:Nat} {q:Pt} {row:Option Nat} (h:Box3 w b q) (hg:w.grownBy W row) (hne:row ≠ some b):Box3 W b q:=by
 have hb:=hg.block b h.lt (fun e=>hne e.symm)
 obtain ⟨c0,c1,c2,f0,f1,f2⟩:=h
 simp only [World.cell?,World.frozen?] at c0 c1 c2 f0 f1 f2
 rw [<- hb] at c0 c1 c2 f0 f1 f2
 exact ⟨c0,c1,c2,f0,f1,f2⟩
structure Two (w0 W:World) (va ve:Value) (A E:List Pt) (bs:List (Nat × Pt)):Prop where
 ra:W.ownsRow w0.heap.size 23 3 va A.length (fl3 A)
 re:W.ownsRow w0.heap.size 23 3 ve E.length (fl3 E)
 apart:∀ k,ve.ownBlock = some k->va.ownBlock ≠ some k
 below:Below w0.heap.size w0 W
 box:∀ x ∈ bs,Box3 W x.1 x.2/\va.ownBlock ≠ some x.1/\ve.ownBlock ≠ some x.1/\w0.heap.size <= x.1
theorem Two.start (w0:World):Two w0 w0 (.slice none 0 0) (.slice none 0 0) [] [] []:=⟨World.ownsRow_nil _ _ _ _,World.ownsRow_nil _ _ _ _,(fun _ h=>by cases h),Below.refl _ _,(fun _ h=>by cases h)⟩
theorem Two.step {w0 W X:World} {va ve:Value} {A E:List Pt} {bs:List (Nat × Pt)} (h:Two w0 W va ve A E bs) (hb:Below W.heap.size W X):Two w0 X va ve A E bs:=
 ⟨own_below h.ra hb,own_below h.re hb,h.apart,h.below.trans (hb.mono h.below.size),fun x hx=>⟨(h.box x hx).1.step hb,(h.box x hx).2⟩⟩
theorem Two.new {w0 W:World} {va ve:Value} {A E:List Pt} {bs:List (Nat × Pt)} (h:Two w0 W va ve A E bs) (q:Pt) (t:TypeId):Two w0 (W.alloc (.cells #[.int .i64 q.x,.int .i64 q.y,.int .i64 q.z] t)) va ve A E ((W.heap.size,q) :: bs):=by
 obtain ⟨a,b,c,d,e⟩:=h.step (n_after W (.cells #[.int .i64 q.x,.int .i64 q.y,.int .i64 q.z] t))
 refine ⟨a,b,c,d,fun x hx=>?_⟩
 rw [List.mem_cons] at hx
 rcases hx with rfl | hx
 ·exact ⟨Box3.new W q.x q.y q.z t,fun k=>by have:=(h.ra.lt _ k).2;simp at this,fun k=>by have:=(h.re.lt _ k).2;simp at this,h.below.size⟩
 ·exact e x hx
theorem Two.tail {w0 W:World} {va ve:Value} {A E:List Pt} {x:Nat × Pt} {bs:List (Nat × Pt)} (h:Two w0 W va ve A E (x :: bs)):Two w0 W va ve A E bs:=⟨h.ra,h.re,h.apart,h.below,fun y hy=>h.box y (List.mem_cons_of_mem _ hy)⟩
theorem Two.head {w0 W:World} {va ve:Value} {A E:List Pt} {x:Nat × Pt} {bs:List (Nat × Pt)} (h:Two w0 W va ve A E (x :: bs)):Box3 W x.1 x.2:=(h.box x (by simp)).1
theorem Two.set {w0 W:World} {va ve:Value} {A E:List Pt} {b:Nat} {q:Pt} {bs:List (Nat × Pt)} (h:Two w0 W va ve A E ((b,q) :: bs)) (hne:∀ x ∈ bs,x.1 ≠ b) (r:Pt):Two w0 (set3 W b r.x r.y r.z) va ve A E ((b,r) :: bs):=by
 obtain ⟨hb,h1,h2,h3⟩:=h.box (b,q) (by simp)
 refine ⟨own_set3 h.ra h1 _ _ _,own_set3 h.re h2 _ _ _,h.apart,set3_below h.below h3 _ _ _,fun x hx=>?_⟩
 rw [List.mem_cons] at hx
 rcases hx with rfl | hx
 ·exact ⟨hb.set _ _ _,h1,h2,h3⟩
 ·obtain ⟨k,k'⟩:=h.box x (List.mem_cons_of_mem _ hx)
  exact ⟨k.other (fun e=>hne x hx e.symm) _ _ _,k'⟩
theorem Two.axis {w0 W X:World} {va ve va':Value} {A E A':List Pt} {bs:List (Nat × Pt)} (h:Two w0 W va ve A E bs) (hr:X.ownsRow w0.heap.size 23 3 va' A'.length (fl3 A')) (hg:Grew W X va va'):Two w0 X va' ve A' E bs:=by
 obtain ⟨k1,k2⟩:=hg.beside h.re h.apart
 refine ⟨hr,k1,k2,hg.on h.below h.ra h.below.size,fun x hx=>?_⟩
 obtain ⟨b,b1,b2,b3⟩:=h.box x hx
 refine ⟨b.grown hg.grown b1,?_,b2,b3⟩
 rcases hg.same with e | ⟨k,e,hk⟩
 ·rw [e];exact b1
 ·rw [e];intro e';cases e';have:=b.lt;omega
theorem Two.swap {w0 W:World} {va ve:Value} {A E:List Pt} {bs:List (Nat × Pt)} (h:Two w0 W va ve A E bs):Two w0 W ve va E A bs:=⟨h.re,h.ra,fun k e e'=>h.apart k e' e,h.below,fun x hx=>⟨(h.box x hx).1,(h.box x hx).2.2.1,(h.box x hx).2.1,(h.box x hx).2.2.2⟩⟩
theorem Two.edge {w0 W X:World} {va ve ve':Value} {A E E':List Pt} {bs:List (Nat × Pt)} (h:Two w0 W va ve A E bs) (hr:X.ownsRow w0.heap.size 23 3 ve' E'.length (fl3 E')) (hg:Grew W X ve ve'):Two w0 X va ve' A E' bs:=(h.swap.axis hr hg).swap
theorem any_snoc (L:List Pt) (f:Pt->Bool) (k:Nat) (hk:k < L.length):(L.take (k + 1)).any f = ((L.take k).any f || f (pt L k)):=by
 rw [take_pt hk];simp
theorem any_takeP {L:List Pt} {f:Pt->Bool} {k:Nat} (h:(L.take k).any f = true):L.any f = true:=by
 rw [List.any_eq_true] at h ⊢
 obtain ⟨x,hx,hf⟩:=h
 exact ⟨x,List.mem_of_mem_take hx,hf⟩
theorem at_new (w:World) (p q r:Pt) (t:TypeId):At (w.alloc (.cells #[.int .i64 p.x,.int .i64 p.y,.int .i64 p.z,.int .i64 q.x,.int .i64 q.y,.int .i64 q.z,.int .i64 r.x,.int .i64 r.y,.int .i64 r.z] t)) w.heap.size [p,q,r]:=by
 intro i hi
 match i,hi with
 | 0,_=>exact ⟨by simp [pt],by simp [pt],by simp [pt]⟩
 | 1,_=>exact ⟨by simp [pt],by simp [pt],by simp [pt]⟩
 | 2,_=>exact ⟨by simp [pt],by simp [pt],by simp [pt]⟩
theorem axis_len (A:List Pt) (n:Pt):(withAxisP A n).length <= A.length + 1:=by unfold withAxisP;split <;> simp
theorem sides_any (v:Value) (L:List Pt) (w0:World) (hv:Lies w0 v L) (hl:L.length <= 12) (hin:∀ p ∈ L,p.inB 65536 = true) :
  Calls Tryz.prog 95 #[v] w0 fun e W=>∃ va ve,e = .returned (.tuple #[va,ve])/\Two w0 W va ve (sidesP L).1 (sidesP L).2 []:=by
 obtain ⟨o,c,rfl,hlc,hcm,hcell⟩:=hv.form
 have HC:Hid _:=hcell
 have HIN:Hid _:=hin
 clear hv hcell hin
 obtain ⟨R,hR⟩:∃ R,sidesP L = R:=⟨_,rfl⟩
 rw [hR]
 have HR:Hid (outerP L (L.drop 0) ([],[]) = R):=hR
 clear hR
 go_enter Tryz.func95,Tryz.ntmps95
 go_wp2_with (fail)
 go_loopg [2,3,18] L.length (fun gm s2 s3 s18 wr=>∃ (i:Nat) (A E:List Pt) (oa oe:Option Addr) (ca ce:Nat),s2 = .slice oa A.length ca/\s3 = .slice oe E.length ce/\s18 = .int .i64 (i:Int)/\i <= L.length/\gm = L.length - i/\A.length <= 144 * i/\E.length <= 432 * i/\Hid (outerP L (L.drop i) (A,E) = R)/\Hid (Two w0 wr (.slice oa A.length ca) (.slice oe E.length ce) A E []))
 case atStart=>exact ⟨0,[],[],none,none,0,0,rfl,rfl,rfl,Nat.zero_le _,rfl,Nat.zero_le _,Nat.zero_le _,HR,Two.start w0⟩
 case round =>
  clear HR
  obtain ⟨i,A,E,oa,oe,ca,ce,rfl,rfl,rfl,hi,hgm,hA,hE,HD,HT⟩:=hrel
  have HG1:Hid _:=hgm
  clear hgm
  by_cases hlt:i < L.length
  ·obtain ⟨g,off,rfl,x0,x1,x2⟩:=HC.out i hlt
   have x0:=c_after HT.out.below x0
   have x1:=c_after HT.out.below x1
   have x2:=c_after HT.out.below x2
   have hain:=HIN.out _ (pt_mem hlt)
   have HD:Hid (outerP L (L.drop (i + 1)) (midP L (pt L i) (L.drop (i + 1)) (A,E)) = R):=by show _ = _;rw [<- HD.out,drop_pt hlt];rfl
   generalize pt L i = pa at *
   go_wp2_with (fail)
   have HT:Hid _:=HT.out.new pa 23
   clear x0 x1 x2
   obtain ⟨W1,hW1⟩:∃ W1:World,W1 = wr.alloc (.cells #[.int .i64 pa.x,.int .i64 pa.y,.int .i64 pa.z] 23):=⟨_,rfl⟩
   obtain ⟨ba,hba⟩:∃ ba,ba = wr.heap.size:=⟨_,rfl⟩
   rw [<- hW1,<- hba] at HT ⊢
   have hlba:ba < W1.heap.size:=HT.out.head.lt
   clear hW1 hba
   go_loopg [2,3,6] (L.length - (i + 1)) (fun gm s2 s3 s6 wx=>∃ (j:Nat) (A E:List Pt) (oa oe:Option Addr) (ca ce:Nat),s2 = .slice oa A.length ca/\s3 = .slice oe E.length ce/\s6 = .int .i64 (j:Int)/\i + 1 <= j/\j <= L.length/\gm = L.length - j/\A.length <= 144 * i + 12 * j/\E.length <= 432 * i + 36 * j/\Hid (outerP L (L.drop (i + 1)) (midP L pa (L.drop j) (A,E)) = R)/\Hid (Two w0 wx (.slice oa A.length ca) (.slice oe E.length ce) A E [(ba,pa)]))
   case atStart=>exact ⟨i + 1,A,E,oa,oe,ca,ce,rfl,rfl,by go_num,Nat.le_refl _,by omega,rfl,by omega,by omega,HD,HT⟩
   case round =>
    clear HD HT hA hE
    obtain ⟨j,A,E,oa,oe,ca,ce,rfl,rfl,rfl,hij,hj,hgm,hA,hE,HD,HT⟩:=hrel
    have HG2:Hid _:=hgm
    clear hgm
    by_cases hjt:j < L.length
    ·obtain ⟨g',off',e',x0,x1,x2⟩:=HC.out j hjt
     simp only [Option.some.injEq,Addr.mk.injEq,and_true] at e'
     obtain ⟨rfl,rfl⟩:=e'
     have x0:=c_after HT.out.below x0
     have x1:=c_after HT.out.below x1
     have x2:=c_after HT.out.below x2
     have hbin:=HIN.out _ (pt_mem hjt)
     have HD:Hid (outerP L (L.drop (i + 1)) (midP L pa (L.drop (j + 1)) (innerP L pa (pt L j) (L.drop (j + 1)) (A,E))) = R):=by show _ = _;rw [<- HD.out,drop_pt hjt];rfl
     generalize pt L j = pb at *
     have HT0:Hid _:=HT.out
     by_cases hjc:c = j + 1
     ·have HD:Hid (outerP L (L.drop (i + 1)) (midP L pa (L.drop (j + 1)) (A,E)) = R):=by show _ = _;rw [<- HD.out,List.drop_eq_nil_of_le (by omega:L.length <= j + 1)];rfl
      have hLj:L.length = j + 1:=by omega
      have hz:c - (j + 1) = 0:=by omega
      go_wp2_with (fail)
      go_step3
      go_wp2_with (fail)
      go_step3
      go_wp2_with (fail)
      go_rounds 1
      rw [Exit.noGoto_normal]
      go_wp2_with (fail)
      go_roundg (L.length - (j + 1))
      case measure=>have:=HG2.out;omega
      case rel=>exact ⟨j + 1,A,E,oa,oe,ca,ce,rfl,rfl,by go_num,by omega,by omega,rfl,by omega,by omega,HD,HT.out.step (n_after _ _)⟩
     have hjc':j + 1 < c:=by omega
     go_wp2_with (fail)
     go_step3
     go_wp2_with (fail)
     go_step3
     go_wp2_with (fail)
     have HT:Hid _:=HT.out.new pb 23
     clear x0 x1 x2
     obtain ⟨W2,hW2⟩:∃ W2:World,W2 = wr.alloc (.cells #[.int .i64 pb.x,.int .i64 pb.y,.int .i64 pb.z] 23):=⟨_,rfl⟩
     obtain ⟨bb,hbb⟩:∃ bb,bb = wr.heap.size:=⟨_,rfl⟩
     rw [<- hW2,<- hbb] at HT ⊢
     have hlbb:bb < W2.heap.size:=HT.out.head.lt
     have hab:ba < bb:=by rw [hbb];exact HT0.out.head.lt
     clear hW2 hbb HT0
     go_loopg [2,3,40] (L.length - (j + 1)) (fun gm s2 s3 s40 wy=>∃ (k:Nat) (A E:List Pt) (oa oe:Option Addr) (ca ce:Nat),s2 = .slice oa A.length ca/\s3 = .slice oe E.length ce/\s40 = .int .i64 (k:Int)/\k <= L.length - (j + 1)/\gm = L.length - (j + 1) - k/\A.length <= 144 * i + 12 * j + k/\E.length <= 432 * i + 36 * j + 3 * k/\Hid (outerP L (L.drop (i + 1)) (midP L pa (L.drop (j + 1)) (innerP L pa pb (L.drop (j + 1 + k)) (A,E))) = R)/\Hid (Two w0 wy (.slice oa A.length ca) (.slice oe E.length ce) A E [(bb,pb),(ba,pa)]))
     case atStart=>exact ⟨0,A,E,oa,oe,ca,ce,rfl,rfl,rfl,Nat.zero_le _,rfl,by omega,by omega,HD,HT⟩
     case round =>
      clear HD HT hA hE
      obtain ⟨k,A,E,oa,oe,ca,ce,rfl,rfl,rfl,hk,hgm,hA,hE,HD,HT⟩:=hrel
      have HG3:Hid _:=hgm
      clear hgm
      have HT1:Hid _:=HT.out
      by_cases hkt:k < L.length - (j + 1)
      ·have hkl:j + 1 + k < L.length:=by omega
       have hkz:(k:Int) < (L.length:Int) - ((j:Int) + 1):=by omega
       obtain ⟨g',off',e',x0,x1,x2⟩:=HC.out (j + 1 + k) hkl
       simp only [Option.some.injEq,Addr.mk.injEq,and_true] at e'
       obtain ⟨rfl,rfl⟩:=e'
       rw [show off + (j + 1 + k) * 3 = off + (j + 1) * 3 + k * 3 by omega] at x0 x1 x2
       have x0:=c_after HT.out.below x0
       have x1:=c_after HT.out.below x1
       have x2:=c_after HT.out.below x2
       have hcin:=HIN.out _ (pt_mem hkl)
       have HD:Hid (outerP L (L.drop (i + 1)) (midP L pa (L.drop (j + 1)) (innerP L pa pb (L.drop (j + 1 + (k + 1))) (triP L pa pb (pt L (j + 1 + k)) (A,E)))) = R):=by show _ = _;rw [<- HD.out,drop_pt hkl];rfl
       generalize pt L (j + 1 + k) = pc at *
       go_upto_region 11 with fail
       have HT:Hid _:=HT.out.new pc 23
       obtain ⟨W3,hW3⟩:∃ W3:World,W3 = wr.alloc (.cells #[.int .i64 pc.x,.int .i64 pc.y,.int .i64 pc.z] 23):=⟨_,rfl⟩
       obtain ⟨bc,hbc⟩:∃ bc,bc = wr.heap.size:=⟨_,rfl⟩
       have hbbc:bb < bc:=by rw [hbc];exact HT1.out.head.lt
       rw [<- hW3,<- hbc] at HT ⊢
       clear hW3 hbc HT1 x0 x1 x2
       have hlbc:bc < W3.heap.size:=HT.out.head.lt
       obtain ⟨p0,p1,p2,_,_,_⟩:=(HT.out.box (ba,pa) (by simp)).1
       obtain ⟨q0,q1,q2,_,_,_⟩:=(HT.out.box (bb,pb) (by simp)).1
       obtain ⟨s0,s1,s2,_,_,_⟩:=(HT.out.box (bc,pc) (by simp)).1
       go_wp2_with (fail)
       refine Calls.mono (across_any pa pb pc _ hain hbin hcin) ?_
       rintro e W4 ⟨rfl,hb4⟩
       have HT:Hid _:=HT.out.step hb4
       have hlc4:bc < W4.heap.size:=Nat.lt_of_lt_of_le hlbc hb4.size
       clear hb4 p0 p1 p2 q0 q1 q2 s0 s1 s2
       have hnin:=cross_in (sub_in hbin hain) (sub_in hcin hain)
       have HTR:Hid (triP L pa pb pc (A,E) = if (pb.sub pa).cross (pc.sub pa) = Pt.O \/ (above L ((pb.sub pa).cross (pc.sub pa)) pa = true/\below L ((pb.sub pa).cross (pc.sub pa)) pa = true) then (A,E) else (withAxisP A (if above L ((pb.sub pa).cross (pc.sub pa)) pa then ((pb.sub pa).cross (pc.sub pa)).neg else (pb.sub pa).cross (pc.sub pa)).short,withEdgesP E [pb.sub pa,pc.sub pa,pc.sub pb])):=rfl
       generalize (pb.sub pa).cross (pc.sub pa) = n at *
       generalize triP L pa pb pc (A,E) = T at *
       unfold Pt.v
       go_upto_region 12 with fail
       have HT:Hid _:=HT.out.new n 23
       obtain ⟨W5,hW5⟩:∃ W5:World,W5 = W4.alloc (.cells #[.int .i64 n.x,.int .i64 n.y,.int .i64 n.z] 23):=⟨_,rfl⟩
       obtain ⟨bn,hbn⟩:∃ bn,bn = W4.heap.size:=⟨_,rfl⟩
       have hbcn:bc < bn:=by rw [hbn];exact hlc4
       rw [<- hW5,<- hbn] at HT ⊢
       clear hW5 hbn
       obtain ⟨s0,s1,s2,_,_,_⟩:=HT.out.head
       go_cut [40,50] from 40 to 96 (fun s40 s50 wc=>s40 = .int .i64 (k:Int)/\s50 = .bool (decide (n = Pt.O))/\wc = W5)
       case first =>
        by_cases ex:n.x = 0
        ·by_cases ey:n.y = 0
         ·by_cases ez:n.z = 0
          ·go_wp2_with (fail)
           go_meet
           case rel=>exact ⟨rfl,by simp [pt_eq,Pt.O,ex,ey,ez],rfl⟩
          ·have e1:(n.z == 0) = false:=beq_eq_false_iff_ne.2 ez
           go_wp2_with (fail)
           go_meet
           case rel=>exact ⟨rfl,by simp [pt_eq,Pt.O,ez],rfl⟩
         ·have e1:(n.y == 0) = false:=beq_eq_false_iff_ne.2 ey
          go_wp2_with (fail)
          go_meet
          case rel=>exact ⟨rfl,by simp [pt_eq,Pt.O,ey],rfl⟩
        ·have e1:(n.x == 0) = false:=beq_eq_false_iff_ne.2 ex
         go_wp2_with (fail)
         go_meet
         case rel=>exact ⟨rfl,by simp [pt_eq,Pt.O,ex],rfl⟩
       case rest =>
        obtain ⟨rfl,rfl,hwc⟩:=hcut
        subst hwc
        clear s0 s1 s2
        by_cases hn:n = Pt.O
        ·have e:T = (A,E):=by rw [HTR.out,if_pos (Or.inl hn)]
         have hd:decide (n = Pt.O) = true:=decide_eq_true hn
         rw [hd]
         subst e
         clear HTR hd hn
         go_wp2_with (fail)
         go_roundg (L.length - (j + 1) - (k + 1))
         case measure=>have:=HG3.out;omega
         case rel=>exact ⟨k + 1,A,E,oa,oe,ca,ce,rfl,rfl,by go_num,by omega,rfl,by omega,by omega,HD,HT.out.tail.tail⟩
        have hd:decide (n = Pt.O) = false:=decide_eq_false hn
        rw [hd]
        have HTR:Hid (T = if (above L n pa = true/\below L n pa = true) then (A,E) else (withAxisP A (if above L n pa then n.neg else n).short,withEdgesP E [pb.sub pa,pc.sub pa,pc.sub pb])):=by
         show _ = _
         rw [HTR.out]
         by_cases h2:above L n pa = true/\below L n pa = true
         ·rw [if_pos (Or.inr h2),if_pos h2]
         ·rw [if_neg (fun h=>h.elim hn h2),if_neg h2]
        clear hd hn
        go_wp2_with (fail)
        go_loopg [11,12,53] L.length (fun gm s11 s12 s53 wz=>∃ (q:Nat) (ab be:Bool),s11 = .bool ab/\s12 = .bool be/\s53 = .int .i64 (q:Int)/\q <= L.length/\gm = L.length - q/\Hid (ab = above (L.take q) n pa)/\Hid (be = below (L.take q) n pa)/\Hid (¬ (ab = true/\be = true))/\Hid (Two w0 wz (.slice oa A.length ca) (.slice oe E.length ce) A E [(bn,n),(bc,pc),(bb,pb),(ba,pa)]))
        case atStart=>exact ⟨0,false,false,rfl,rfl,rfl,Nat.zero_le _,rfl,rfl,rfl,(fun h=>by cases h.1),HT⟩
        case round =>
         clear HT
         obtain ⟨q,ab,be,rfl,rfl,rfl,hq,hgm,HAB,HBE,HNB,HT⟩:=hrel
         have HG4:Hid _:=hgm
         clear hgm
         by_cases hqt:q < L.length
         ·obtain ⟨g',off',e',x0,x1,x2⟩:=HC.out q hqt
          simp only [Option.some.injEq,Addr.mk.injEq,and_true] at e'
          obtain ⟨rfl,rfl⟩:=e'
          have x0:=c_after HT.out.below x0
          have x1:=c_after HT.out.below x1
          have x2:=c_after HT.out.below x2
          have hmin:=HIN.out _ (pt_mem hqt)
          have HS1:Hid (above (L.take (q + 1)) n pa = (ab || decide (0 < n.dot ((pt L q).sub pa)))):=by show _ = _;rw [HAB.out];exact any_snoc L _ q hqt
          have HS2:Hid (below (L.take (q + 1)) n pa = (be || decide (n.dot ((pt L q).sub pa) < 0))):=by show _ = _;rw [HBE.out];exact any_snoc L _ q hqt
          clear HAB HBE
          generalize pt L q = m at *
          go_upto_region 17 with fail
          have HT:Hid _:=HT.out.new m 23
          obtain ⟨W6,hW6⟩:∃ W6:World,W6 = wr.alloc (.cells #[.int .i64 m.x,.int .i64 m.y,.int .i64 m.z] 23):=⟨_,rfl⟩
          obtain ⟨bm,hbm⟩:∃ bm,bm = wr.heap.size:=⟨_,rfl⟩
          rw [<- hW6,<- hbm] at HT ⊢
          clear hW6 hbm x0 x1 x2
          have L1:Hid _:=fun w'=>less_any m pa w' (inB_mono hmin (by decide)) (inB_mono hain (by decide))
          have L2:Hid _:=fun w'=>dot_any n (m.sub pa) w' hnin (sub_in hmin hain)
          unfold Pt.v at L1 L2
          obtain ⟨p0,p1,p2,_,_,_⟩:=(HT.out.box (ba,pa) (by simp)).1
          obtain ⟨q0,q1,q2,_,_,_⟩:=(HT.out.box (bn,n) (by simp)).1
          obtain ⟨s0,s1,s2,_,_,_⟩:=(HT.out.box (bm,m) (by simp)).1
          dsimp only at p0 p1 p2 q0 q1 q2 s0 s1 s2
          refine RV.rs [.some (.agg #[.int .i64 n.x,.int .i64 n.y,.int .i64 n.z]),.some (.agg #[.int .i64 m.x,.int .i64 m.y,.int .i64 m.z]),.some (.agg #[.int .i64 pa.x,.int .i64 pa.y,.int .i64 pa.z]),.some (.agg #[.int .i64 ((m.sub pa).x),.int .i64 ((m.sub pa).y),.int .i64 ((m.sub pa).z)]),.some (.int .i64 (n.dot (m.sub pa))),.some (.int .i64 (n.dot (m.sub pa)))] [58,59,60,61,62,16] [(5,.pointer (some ⟨ba,0,none⟩)),(10,.pointer (some ⟨bn,0,none⟩)),(14,.pointer (some ⟨bm,0,none⟩))] (fun γ L w9=>Below W6.heap.size W6 w9) ⟨rfl,rfl,rfl,trivial⟩ ?_ ?_ ?_
          ·exact (Below.refl _ W6).drew
          ·intro D WA Z hD hWA hZ T
           simp only [RV.Outs,RV.Slots,Nat.reduceAdd] at T
           iterate 3 (refine RV.cc _ (RV.pu T (fun γ v L w hl h=>h) (fun γ L a w hH hl h9 k9=>⟨_,?_,rfl⟩)) ?_;· have hB9:=hH.glob;have q0:=c_after hB9 q0;have q1:=c_after hB9 q1;have q2:=c_after hB9 q2;have q3:=c_after hB9 s0;have q4:=c_after hB9 s1;have q5:=c_after hB9 s2;have q6:=c_after hB9 p0;have q7:=c_after hB9 p1;have q8:=c_after hB9 p2;simp [execOp,go_sem,h9,q0,q1,q2,q3,q4,q5,q6,q7,q8])
           refine RV.cc _ (RV.dc (fun γ L a w hH hl hA=>by have h9:=T γ L a w hH;have k9:=hA;simp [Region.binds] at k9;have hB9:=hH.glob;exact ⟨122,#[.agg #[.int .i64 m.x,.int .i64 m.y,.int .i64 m.z],.agg #[.int .i64 pa.x,.int .i64 pa.y,.int .i64 pa.z]],by simp [go_sem,h9,k9],Calls.mono (L1.out w) (by rintro e w2 ⟨rfl,hb⟩;exact ⟨_,rfl,rfl,fun j v _ h=>h.keep _,hB9.trans (hb.mono hB9.size)⟩)⟩)) ?_
           refine RV.cc _ (RV.dc (fun γ L a w hH hl hA=>by have h9:=T γ L a w hH;have k9:=hA;simp [Region.binds] at k9;have hB9:=hH.glob;exact ⟨121,#[.agg #[.int .i64 n.x,.int .i64 n.y,.int .i64 n.z],.agg #[.int .i64 ((m.sub pa).x),.int .i64 ((m.sub pa).y),.int .i64 ((m.sub pa).z)]],by simp [go_sem,h9,k9],Calls.mono (L2.out w) (by rintro e w2 ⟨rfl,hb⟩;exact ⟨_,rfl,rfl,fun j v _ h=>h.keep _,hB9.trans (hb.mono hB9.size)⟩)⟩)) ?_
           (refine RV.cc _ (RV.pu T (fun γ v L w hl h=>h) (fun γ L a w hH hl h9 k9=>⟨_,?_,rfl⟩)) ?_;· simp [Region.binds] at k9;simp [execOp,go_sem,h9,k9])
           exact RV.AllDo.nil
          ·intro γ w5 L9 hL hI9 hG9
           have hb8:=hG9
           clear hL hI9 hG9
           simp only [RV.putL,Act.put,List.setIfInBounds_toArray,List.set_cons_zero,List.set_cons_succ]
           have HT:Hid _:=(HT.out.step hb8).tail
           clear hb8 L1 L2 p0 p1 p2 q0 q1 q2 s0 s1 s2
           generalize n.dot (m.sub pa) = dd at *
           rcases Int.lt_trichotomy dd 0 with hs | hs | hs
           ·cases ab with
            | true =>
             cases be with
             | true =>
              exact absurd ⟨rfl,rfl⟩ HNB.out
             | false =>
              have K1:Hid (true = above (L.take (q + 1)) n pa):=by show _ = _;rw [HS1.out];simp;try omega
              have K2:Hid (true = below (L.take (q + 1)) n pa):=by show _ = _;rw [HS2.out];simp;try omega
              clear HS1 HS2 HNB
              go_wp2_with (fail)
              have e:T = (A,E):=by rw [HTR.out,if_pos ⟨any_takeP K1.out.symm,any_takeP K2.out.symm⟩]
              subst e
              go_roundg (L.length - (j + 1) - (k + 1))
              case measure=>have:=HG3.out;omega
              case rel=>exact ⟨k + 1,A,E,oa,oe,ca,ce,rfl,rfl,by go_num,by omega,rfl,by omega,by omega,HD,HT.out.tail.tail⟩
            | false =>
             cases be with
             | true =>
              have K1:Hid (false = above (L.take (q + 1)) n pa):=by show _ = _;rw [HS1.out];simp;try omega
              have K2:Hid (true = below (L.take (q + 1)) n pa):=by show _ = _;rw [HS2.out];simp;try omega
              clear HS1 HS2 HNB
              go_wp2_with (fail)
              go_roundg (L.length - (q + 1))
              case measure=>have:=HG4.out;omega
              case rel=>exact ⟨q + 1,false,true,(by first | rfl | (simp;omega)),(by first | rfl | (simp;omega)),by go_num,by omega,rfl,K1,K2,(fun h=>by cases h.1),HT⟩
             | false =>
              have K1:Hid (false = above (L.take (q + 1)) n pa):=by show _ = _;rw [HS1.out];simp;try omega
              have K2:Hid (true = below (L.take (q + 1)) n pa):=by show _ = _;rw [HS2.out];simp;try omega
              clear HS1 HS2 HNB
              go_wp2_with (fail)
              go_roundg (L.length - (q + 1))
              case measure=>have:=HG4.out;omega
              case rel=>exact ⟨q + 1,false,true,(by first | rfl | (simp;omega)),(by first | rfl | (simp;omega)),by go_num,by omega,rfl,K1,K2,(fun h=>by cases h.1),HT⟩
           ·subst hs
            cases ab with
            | true =>
             cases be with
             | true =>
              exact absurd ⟨rfl,rfl⟩ HNB.out
             | false =>
              have K1:Hid (true = above (L.take (q + 1)) n pa):=by show _ = _;rw [HS1.out];simp;try omega
              have K2:Hid (false = below (L.take (q + 1)) n pa):=by show _ = _;rw [HS2.out];simp;try omega
              clear HS1 HS2 HNB
              go_wp2_with (fail)
              go_roundg (L.length - (q + 1))
              case measure=>have:=HG4.out;omega
              case rel=>exact ⟨q + 1,true,false,(by first | rfl | (simp;omega)),(by first | rfl | (simp;omega)),by go_num,by omega,rfl,K1,K2,(fun h=>by cases h.2),HT⟩
            | false =>
             cases be with
             | true =>
              have K1:Hid (false = above (L.take (q + 1)) n pa):=by show _ = _;rw [HS1.out];simp;try omega
              have K2:Hid (true = below (L.take (q + 1)) n pa):=by show _ = _;rw [HS2.out];simp;try omega
              clear HS1 HS2 HNB
              go_wp2_with (fail)
              go_roundg (L.length - (q + 1))
              case measure=>have:=HG4.out;omega
              case rel=>exact ⟨q + 1,false,true,(by first | rfl | (simp;omega)),(by first | rfl | (simp;omega)),by go_num,by omega,rfl,K1,K2,(fun h=>by cases h.1),HT⟩
             | false =>
              have K1:Hid (false = above (L.take (q + 1)) n pa):=by show _ = _;rw [HS1.out];simp;try omega
              have K2:Hid (false = below (L.take (q + 1)) n pa):=by show _ = _;rw [HS2.out];simp;try omega
              clear HS1 HS2 HNB
              go_wp2_with (fail)
              go_roundg (L.length - (q + 1))
              case measure=>have:=HG4.out;omega
              case rel=>exact ⟨q + 1,false,false,(by first | rfl | (simp;omega)),(by first | rfl | (simp;omega)),by go_num,by omega,rfl,K1,K2,(fun h=>by cases h.1),HT⟩
           ·cases ab with
            | true =>
             cases be with
             | true =>
              exact absurd ⟨rfl,rfl⟩ HNB.out
             | false =>
              have K1:Hid (true = above (L.take (q + 1)) n pa):=by show _ = _;rw [HS1.out];simp;try omega
              have K2:Hid (false = below (L.take (q + 1)) n pa):=by show _ = _;rw [HS2.out];simp;try omega
              clear HS1 HS2 HNB
              go_wp2_with (fail)
              go_roundg (L.length - (q + 1))
              case measure=>have:=HG4.out;omega
              case rel=>exact ⟨q + 1,true,false,(by first | rfl | (simp;omega)),(by first | rfl | (simp;omega)),by go_num,by omega,rfl,K1,K2,(fun h=>by cases h.2),HT⟩
            | false =>
             cases be with
             | true =>
              have K1:Hid (true = above (L.take (q + 1)) n pa):=by show _ = _;rw [HS1.out];simp;try omega
              have K2:Hid (true = below (L.take (q + 1)) n pa):=by show _ = _;rw [HS2.out];simp;try omega
              clear HS1 HS2 HNB
              go_wp2_with (fail)
              have e:T = (A,E):=by rw [HTR.out,if_pos ⟨any_takeP K1.out.symm,any_takeP K2.out.symm⟩]
              subst e
              go_roundg (L.length - (j + 1) - (k + 1))
              case measure=>have:=HG3.out;omega
              case rel=>exact ⟨k + 1,A,E,oa,oe,ca,ce,rfl,rfl,by go_num,by omega,rfl,by omega,by omega,HD,HT.out.tail.tail⟩
             | false =>
              have K1:Hid (true = above (L.take (q + 1)) n pa):=by show _ = _;rw [HS1.out];simp;try omega
              have K2:Hid (false = below (L.take (q + 1)) n pa):=by show _ = _;rw [HS2.out];simp;try omega
              clear HS1 HS2 HNB
              go_wp2_with (fail)
              go_roundg (L.length - (q + 1))
              case measure=>have:=HG4.out;omega
              case rel=>exact ⟨q + 1,true,false,(by first | rfl | (simp;omega)),(by first | rfl | (simp;omega)),by go_num,by omega,rfl,K1,K2,(fun h=>by cases h.2),HT⟩
         ·have hno:¬ (above L n pa = true/\below L n pa = true):=by
           have e1:=HAB.out
           have e2:=HBE.out
           rw [List.take_of_length_le (by omega:L.length <= q)] at e1 e2
           rw [<- e1,<- e2];exact HNB.out
          have HTR:Hid (T = (withAxisP A (if ab then n.neg else n).short,withEdgesP E [pb.sub pa,pc.sub pa,pc.sub pb])):=by
           have e1:=HAB.out
           rw [List.take_of_length_le (by omega:L.length <= q)] at e1
           show _ = _
           rw [HTR.out,if_neg hno,e1]
          clear hno HAB HBE HNB
          go_upto_if 77 with fail
          go_cut [40] from 40 to 96 (fun s40 wc=>s40 = .int .i64 (k:Int)/\Hid (Two w0 wc (.slice oa A.length ca) (.slice oe E.length ce) A E [(bn,if ab then n.neg else n),(bc,pc),(bb,pb),(ba,pa)]))
          case first =>
           cases ab with
           | true =>
            obtain ⟨c0,c1,c2,f0,f1,f2⟩:=HT.out.head
            dsimp only at c0 c1 c2 f0 f1 f2
            go_wp2_with (fail)
            refine Calls.mono (back_any n _ (inB_mono hnin (by decide))) ?_
            rintro e W7 ⟨rfl,hb7⟩
            have HT:Hid _:=(HT.out.step hb7).set (by intro x hx;simp at hx;rcases hx with rfl | rfl | rfl <;> simp <;> omega) n.neg
            have d0:=c_after hb7 c0
            have d1:=c_after hb7 c1
            have d2:=c_after hb7 c2
            have f0:=f_after hb7 c0 f0
            have f1:=f_after hb7 c1 f1
            have f2:=f_after hb7 c2 f2
            clear c0 c1 c2 hb7
            unfold set3 at HT
            unfold Pt.v
            go_wp2_with (fail)
            go_meet
            case rel=>exact ⟨rfl,HT⟩
           | false =>
            go_wp2_with (fail)
            go_meet
            case rel=>exact ⟨rfl,HT⟩
          case rest =>
           clear HT
           obtain ⟨rfl,HT⟩:=hcut
           have HTE:=HTR.out
           clear HTR
           generalize (if ab then n.neg else n) = n2 at *
           subst HTE
           obtain ⟨c0,c1,c2,_,_,_⟩:=HT.out.head
           dsimp only at c0 c1 c2
           go_wp2_with (fail)
           refine Calls.mono (short_any n2 _) ?_
           rintro e W8 ⟨rfl,hb8⟩
           have HT:Hid _:=HT.out.step hb8
           clear hb8 c0 c1 c2
           generalize n2.short = n3 at *
           unfold Pt.v
           go_wp2_with (fail)
           refine Calls.mono (withAxis_any w0.heap.size _ A n3 W8 HT.out.ra HT.out.below.size (by omega)) ?_
           rintro e W9 ⟨va',rfl,hr,hgr⟩
           have HT:Hid _:=HT.out.axis hr hgr
           clear hr hgr
           obtain ⟨oa',ca',rfl,_⟩:=(Lies.of_row HT.out.ra).form
           have hA':=axis_len A n3
           generalize withAxisP A n3 = A' at *
           go_upto_region 24 with fail
           have L1:Hid _:=fun w'=>less_any pb pa w' (inB_mono hbin (by decide)) (inB_mono hain (by decide))
           have L2:Hid _:=fun w'=>less_any pc pa w' (inB_mono hcin (by decide)) (inB_mono hain (by decide))
           have L3:Hid _:=fun w'=>less_any pc pb w' (inB_mono hcin (by decide)) (inB_mono hbin (by decide))
           unfold Pt.v at L1 L2 L3
           obtain ⟨p0,p1,p2,_,_,_⟩:=(HT.out.box (ba,pa) (by simp)).1
           obtain ⟨q0,q1,q2,_,_,_⟩:=(HT.out.box (bb,pb) (by simp)).1
           obtain ⟨s0,s1,s2,_,_,_⟩:=(HT.out.box (bc,pc) (by simp)).1
           dsimp only at p0 p1 p2 q0 q1 q2 s0 s1 s2
           have hE':=edges_len E [pb.sub pa,pc.sub pa,pc.sub pb]
           refine RV.region_by (fun j v w=>match j with | 0=>v = .slice oe E.length ce | 1=>v = .agg #[.int .i64 pb.x,.int .i64 pb.y,.int .i64 pb.z] | 2=>v = .agg #[.int .i64 pa.x,.int .i64 pa.y,.int .i64 pa.z] | 3=>v = .agg #[.int .i64 (pb.sub pa).x,.int .i64 (pb.sub pa).y,.int .i64 (pb.sub pa).z] | 4=>v = .agg #[.int .i64 pc.x,.int .i64 pc.y,.int .i64 pc.z] | 5=>v = .agg #[.int .i64 pa.x,.int .i64 pa.y,.int .i64 pa.z] | 6=>v = .agg #[.int .i64 (pc.sub pa).x,.int .i64 (pc.sub pa).y,.int .i64 (pc.sub pa).z] | 7=>v = .agg #[.int .i64 pc.x,.int .i64 pc.y,.int .i64 pc.z] | 8=>v = .agg #[.int .i64 pb.x,.int .i64 pb.y,.int .i64 pb.z] | 9=>v = .agg #[.int .i64 (pc.sub pb).x,.int .i64 (pc.sub pb).y,.int .i64 (pc.sub pb).z] | 10=>(fun v w=>∃ g,v = .slice (some ⟨g,0,none⟩) 3 3/\W9.heap.size <= g/\g < w.heap.size/\At w g [pb.sub pa,pc.sub pa,pc.sub pb]) v w | 11=>(fun v w=>w.ownsRow w0.heap.size 23 3 v (withEdgesP E [pb.sub pa,pc.sub pa,pc.sub pb]).length (fl3 (withEdgesP E [pb.sub pa,pc.sub pa,pc.sub pb]))/\Grew W9 w (.slice oe E.length ce) v) v w | 12=>(fun v w=>w.ownsRow w0.heap.size 23 3 v (withEdgesP E [pb.sub pa,pc.sub pa,pc.sub pb]).length (fl3 (withEdgesP E [pb.sub pa,pc.sub pa,pc.sub pb]))/\Grew W9 w (.slice oe E.length ce) v) v w | _=>True) (fun γ L w9=>(L 11 = false/\Below W9.heap.size W9 w9) \/ (L 11 = true/\True)) (by kernel_rfl) (by kernel_rfl) (by kernel_rfl) (by kernel_rfl) ?_ ?_ ?_
           ·exact Or.inl ⟨rfl,(Below.refl _ W9).drew⟩
           ·generalize hD:dstOf _ = D
            generalize hWA:waitsFor _ = WA
            generalize hZ:Act.mk _ _ = Z
            refine RV.AllDo.name ?_
            intro R hR
            have d0:D 0 = some 84:=by rw [<- hD];rfl
            have d1:D 1 = some 85:=by rw [<- hD];rfl
            have d2:D 2 = some 86:=by rw [<- hD];rfl
            have d3:D 3 = some 87:=by rw [<- hD];rfl
            have d4:D 4 = some 88:=by rw [<- hD];rfl
            have d5:D 5 = some 89:=by rw [<- hD];rfl
            have d6:D 6 = some 90:=by rw [<- hD];rfl
            have d7:D 7 = some 91:=by rw [<- hD];rfl
            have d8:D 8 = some 92:=by rw [<- hD];rfl
            have d9:D 9 = some 93:=by rw [<- hD];rfl
            have d10:D 10 = some 94:=by rw [<- hD];rfl
            have d11:D 11 = some 95:=by rw [<- hD];rfl
            have d12:D 12 = some 3:=by rw [<- hD];rfl
            have r0:∀ v w,R 0 v w = (v = .slice oe E.length ce):=fun v w=>by rw [hR];rfl
            have r1:∀ v w,R 1 v w = (v = .agg #[.int .i64 pb.x,.int .i64 pb.y,.int .i64 pb.z]):=fun v w=>by rw [hR];rfl
            have r2:∀ v w,R 2 v w = (v = .agg #[.int .i64 pa.x,.int .i64 pa.y,.int .i64 pa.z]):=fun v w=>by rw [hR];rfl
            have r3:∀ v w,R 3 v w = (v = .agg #[.int .i64 (pb.sub pa).x,.int .i64 (pb.sub pa).y,.int .i64 (pb.sub pa).z]):=fun v w=>by rw [hR];rfl
            have r4:∀ v w,R 4 v w = (v = .agg #[.int .i64 pc.x,.int .i64 pc.y,.int .i64 pc.z]):=fun v w=>by rw [hR];rfl
            have r5:∀ v w,R 5 v w = (v = .agg #[.int .i64 pa.x,.int .i64 pa.y,.int .i64 pa.z]):=fun v w=>by rw [hR];rfl
            have r6:∀ v w,R 6 v w = (v = .agg #[.int .i64 (pc.sub pa).x,.int .i64 (pc.sub pa).y,.int .i64 (pc.sub pa).z]):=fun v w=>by rw [hR];rfl
            have r7:∀ v w,R 7 v w = (v = .agg #[.int .i64 pc.x,.int .i64 pc.y,.int .i64 pc.z]):=fun v w=>by rw [hR];rfl
            have r8:∀ v w,R 8 v w = (v = .agg #[.int .i64 pb.x,.int .i64 pb.y,.int .i64 pb.z]):=fun v w=>by rw [hR];rfl
            have r9:∀ v w,R 9 v w = (v = .agg #[.int .i64 (pc.sub pb).x,.int .i64 (pc.sub pb).y,.int .i64 (pc.sub pb).z]):=fun v w=>by rw [hR];rfl
            have r10:∀ v w,R 10 v w = ((fun v w=>∃ g,v = .slice (some ⟨g,0,none⟩) 3 3/\W9.heap.size <= g/\g < w.heap.size/\At w g [pb.sub pa,pc.sub pa,pc.sub pb]) v w):=fun v w=>by rw [hR];rfl
            have r11:∀ v w,R 11 v w = ((fun v w=>w.ownsRow w0.heap.size 23 3 v (withEdgesP E [pb.sub pa,pc.sub pa,pc.sub pb]).length (fl3 (withEdgesP E [pb.sub pa,pc.sub pa,pc.sub pb]))/\Grew W9 w (.slice oe E.length ce) v) v w):=fun v w=>by rw [hR];rfl
            have r12:∀ v w,R 12 v w = ((fun v w=>w.ownsRow w0.heap.size 23 3 v (withEdgesP E [pb.sub pa,pc.sub pa,pc.sub pb]).length (fl3 (withEdgesP E [pb.sub pa,pc.sub pa,pc.sub pb]))/\Grew W9 w (.slice oe E.length ce) v) v w):=fun v w=>by rw [hR];rfl
            have X3:∀ j,D j = some 3->j = 12:=fun j hj=>by rw [<- hD] at hj;exact dst_once (by kernel_rfl) hj rfl
            have Y3:Z.tmps[3]? = some (.slice oe E.length ce):=by rw [<- hZ];rfl
            have LA_12_0:WA 12 0:=by rw [<- hWA];exact ⟨_,rfl,⟨0,.phase⟩,by simp,rfl,rfl⟩
            have F5_:∀ j,D j ≠ some 5:=by rw [<- hD];exact RV.dst_free (by kernel_rfl)
            have Z5_:Z.tmps[5]? = some (.pointer (some ⟨ba,0,none⟩)):=by rw [<- hZ];rfl
            have F7_:∀ j,D j ≠ some 7:=by rw [<- hD];exact RV.dst_free (by kernel_rfl)
            have Z7_:Z.tmps[7]? = some (.pointer (some ⟨bb,0,none⟩)):=by rw [<- hZ];rfl
            have F9_:∀ j,D j ≠ some 9:=by rw [<- hD];exact RV.dst_free (by kernel_rfl)
            have Z9_:Z.tmps[9]? = some (.pointer (some ⟨bc,0,none⟩)):=by rw [<- hZ];rfl
            have K:∀ j v w w',Below w.heap.size w w'->R j v w->R j v w':=by
             rw [hR]
             intro j v w w' hb h
             revert h
             dsimp only
             split
             all_goals first | exact id | exact (fun ⟨g,t1,t2,t3,t4⟩=>⟨g,t1,t2,Nat.lt_of_lt_of_le t3 hb.size,t4.below hb⟩) | exact (fun ⟨t1,t2⟩=>⟨own_below t1 hb,t2.trans (Grew.below hb _)⟩)
            have K2:∀ j v w w',j ≠ 11->j ≠ 12->w.grownBy w' (Value.slice oe E.length ce).ownBlock->(∀ g,W9.heap.size <= g->(Value.slice oe E.length ce).ownBlock ≠ some g)->R j v w->R j v w':=by
             rw [hR]
             intro j v w w' n1 n2 hg ho h
             revert h
             dsimp only
             split
             all_goals first | exact id | exact absurd rfl n1 | exact absurd rfl n2 | exact (fun ⟨g,t1,t2,t3,t4⟩=>⟨g,t1,t2,Nat.lt_of_lt_of_le t3 hg.size,t4.grown hg (ho g t2)⟩)
            have A_11_0:WA 11 0:=by rw [<- hWA];exact ⟨_,rfl,⟨0,.data⟩,by simp,rfl,rfl⟩
            have A_3_1:WA 3 1:=by rw [<- hWA];exact ⟨_,rfl,⟨1,.data⟩,by simp,rfl,rfl⟩
            have A_3_2:WA 3 2:=by rw [<- hWA];exact ⟨_,rfl,⟨2,.data⟩,by simp,rfl,rfl⟩
            have A_6_3:WA 6 3:=by rw [<- hWA];exact ⟨_,rfl,⟨3,.chain⟩,by simp,rfl,rfl⟩
            have A_6_4:WA 6 4:=by rw [<- hWA];exact ⟨_,rfl,⟨4,.data⟩,by simp,rfl,rfl⟩
            have A_6_5:WA 6 5:=by rw [<- hWA];exact ⟨_,rfl,⟨5,.data⟩,by simp,rfl,rfl⟩
            have A_9_6:WA 9 6:=by rw [<- hWA];exact ⟨_,rfl,⟨6,.chain⟩,by simp,rfl,rfl⟩
            have A_9_7:WA 9 7:=by rw [<- hWA];exact ⟨_,rfl,⟨7,.data⟩,by simp,rfl,rfl⟩
            have A_9_8:WA 9 8:=by rw [<- hWA];exact ⟨_,rfl,⟨8,.data⟩,by simp,rfl,rfl⟩
            have A_11_9:WA 11 9:=by rw [<- hWA];exact ⟨_,rfl,⟨9,.chain⟩,by simp,rfl,rfl⟩
            have A_11_10:WA 11 10:=by rw [<- hWA];exact ⟨_,rfl,⟨10,.data⟩,by simp,rfl,rfl⟩
            have A_12_11:WA 12 11:=by rw [<- hWA];exact ⟨_,rfl,⟨11,.data⟩,by simp,rfl,rfl⟩
            clear hD hWA hZ hR
            refine RV.cc 0 (RV.dp (fun γ v L w hl h=>by rw [RV.mn (L:=L) (i:=0) (j:=11) (by decide)];exact h) (fun γ L a w hH hl hA=>by have e0:=(hH.early 3 (fun j hj=>by rw [X3 j hj];exact RV.ny hH LA_12_0 hl)).trans Y3;exact ⟨.slice oe E.length ce,by simp [execOp,go_sem,e0],(r0 _ _).mpr rfl⟩)) ?_
            refine RV.cc 1 (RV.dp (fun γ v L w hl h=>by rw [RV.mn (L:=L) (i:=1) (j:=11) (by decide)];exact h) (fun γ L a w hH hl hA=>by have e0:=((hH.rest 7 F7_).trans Z7_);have hB9:=early9 hH.glob (RV.ny hH A_11_9 (RV.ny hH A_9_6 (RV.ny hH A_6_3 (RV.ny hH A_3_1 hl))));have z0:=c_after hB9 q0;have z1:=c_after hB9 q1;have z2:=c_after hB9 q2;exact ⟨.agg #[.int .i64 pb.x,.int .i64 pb.y,.int .i64 pb.z],by simp [execOp,go_sem,e0,z0,z1,z2],(r1 _ _).mpr rfl⟩)) ?_
            refine RV.cc 2 (RV.dp (fun γ v L w hl h=>by rw [RV.mn (L:=L) (i:=2) (j:=11) (by decide)];exact h) (fun γ L a w hH hl hA=>by have e0:=((hH.rest 5 F5_).trans Z5_);have hB9:=early9 hH.glob (RV.ny hH A_11_9 (RV.ny hH A_9_6 (RV.ny hH A_6_3 (RV.ny hH A_3_2 hl))));have z0:=c_after hB9 p0;have z1:=c_after hB9 p1;have z2:=c_after hB9 p2;exact ⟨.agg #[.int .i64 pa.x,.int .i64 pa.y,.int .i64 pa.z],by simp [execOp,go_sem,e0,z0,z1,z2],(r2 _ _).mpr rfl⟩)) ?_
            refine RV.cc 3 (RV.dc (fun γ L a w hH hl hA=>by have e0:=hH.got d1 r1 (hA ⟨1,.data⟩ (by simp) rfl);have e1:=hH.got d2 r2 (hA ⟨2,.data⟩ (by simp) rfl);have hB9:=early9 hH.glob (RV.ny hH A_11_9 (RV.ny hH A_9_6 (RV.ny hH A_6_3 hl)));exact ⟨122,#[.agg #[.int .i64 pb.x,.int .i64 pb.y,.int .i64 pb.z],.agg #[.int .i64 pa.x,.int .i64 pa.y,.int .i64 pa.z]],by simp [go_sem,e0,e1],Calls.mono (L1.out w) (by rintro e w2 ⟨rfl,hb⟩;exact ⟨_,rfl,(r3 _ _).mpr rfl,fun j v _ h=>K j v _ _ hb h,Or.inl ⟨by rw [RV.mn (L:=L) (i:=3) (j:=11) (by decide)];exact (RV.ny hH A_11_9 (RV.ny hH A_9_6 (RV.ny hH A_6_3 hl))),hB9.trans (hb.mono hB9.size)⟩⟩)⟩)) ?_
            refine RV.cc 4 (RV.dp (fun γ v L w hl h=>by rw [RV.mn (L:=L) (i:=4) (j:=11) (by decide)];exact h) (fun γ L a w hH hl hA=>by have e0:=((hH.rest 9 F9_).trans Z9_);have hB9:=early9 hH.glob (RV.ny hH A_11_9 (RV.ny hH A_9_6 (RV.ny hH A_6_4 hl)));have z0:=c_after hB9 s0;have z1:=c_after hB9 s1;have z2:=c_after hB9 s2;exact ⟨.agg #[.int .i64 pc.x,.int .i64 pc.y,.int .i64 pc.z],by simp [execOp,go_sem,e0,z0,z1,z2],(r4 _ _).mpr rfl⟩)) ?_
            refine RV.cc 5 (RV.dp (fun γ v L w hl h=>by rw [RV.mn (L:=L) (i:=5) (j:=11) (by decide)];exact h) (fun γ L a w hH hl hA=>by have e0:=((hH.rest 5 F5_).trans Z5_);have hB9:=early9 hH.glob (RV.ny hH A_11_9 (RV.ny hH A_9_6 (RV.ny hH A_6_5 hl)));have z0:=c_after hB9 p0;have z1:=c_after hB9 p1;have z2:=c_after hB9 p2;exact ⟨.agg #[.int .i64 pa.x,.int .i64 pa.y,.int .i64 pa.z],by simp [execOp,go_sem,e0,z0,z1,z2],(r5 _ _).mpr rfl⟩)) ?_
            refine RV.cc 6 (RV.dc (fun γ L a w hH hl hA=>by have e0:=hH.got d4 r4 (hA ⟨4,.data⟩ (by simp) rfl);have e1:=hH.got d5 r5 (hA ⟨5,.data⟩ (by simp) rfl);have hB9:=early9 hH.glob (RV.ny hH A_11_9 (RV.ny hH A_9_6 hl));exact ⟨122,#[.agg #[.int .i64 pc.x,.int .i64 pc.y,.int .i64 pc.z],.agg #[.int .i64 pa.x,.int .i64 pa.y,.int .i64 pa.z]],by simp [go_sem,e0,e1],Calls.mono (L2.out w) (by rintro e w2 ⟨rfl,hb⟩;exact ⟨_,rfl,(r6 _ _).mpr rfl,fun j v _ h=>K j v _ _ hb h,Or.inl ⟨by rw [RV.mn (L:=L) (i:=6) (j:=11) (by decide)];exact (RV.ny hH A_11_9 (RV.ny hH A_9_6 hl)),hB9.trans (hb.mono hB9.size)⟩⟩)⟩)) ?_
            refine RV.cc 7 (RV.dp (fun γ v L w hl h=>by rw [RV.mn (L:=L) (i:=7) (j:=11) (by decide)];exact h) (fun γ L a w hH hl hA=>by have e0:=((hH.rest 9 F9_).trans Z9_);have hB9:=early9 hH.glob (RV.ny hH A_11_9 (RV.ny hH A_9_7 hl));have z0:=c_after hB9 s0;have z1:=c_after hB9 s1;have z2:=c_after hB9 s2;exact ⟨.agg #[.int .i64 pc.x,.int .i64 pc.y,.int .i64 pc.z],by simp [execOp,go_sem,e0,z0,z1,z2],(r7 _ _).mpr rfl⟩)) ?_
            refine RV.cc 8 (RV.dp (fun γ v L w hl h=>by rw [RV.mn (L:=L) (i:=8) (j:=11) (by decide)];exact h) (fun γ L a w hH hl hA=>by have e0:=((hH.rest 7 F7_).trans Z7_);have hB9:=early9 hH.glob (RV.ny hH A_11_9 (RV.ny hH A_9_8 hl));have z0:=c_after hB9 q0;have z1:=c_after hB9 q1;have z2:=c_after hB9 q2;exact ⟨.agg #[.int .i64 pb.x,.int .i64 pb.y,.int .i64 pb.z],by simp [execOp,go_sem,e0,z0,z1,z2],(r8 _ _).mpr rfl⟩)) ?_
            refine RV.cc 9 (RV.dc (fun γ L a w hH hl hA=>by have e0:=hH.got d7 r7 (hA ⟨7,.data⟩ (by simp) rfl);have e1:=hH.got d8 r8 (hA ⟨8,.data⟩ (by simp) rfl);have hB9:=early9 hH.glob (RV.ny hH A_11_9 hl);exact ⟨122,#[.agg #[.int .i64 pc.x,.int .i64 pc.y,.int .i64 pc.z],.agg #[.int .i64 pb.x,.int .i64 pb.y,.int .i64 pb.z]],by simp [go_sem,e0,e1],Calls.mono (L3.out w) (by rintro e w2 ⟨rfl,hb⟩;exact ⟨_,rfl,(r9 _ _).mpr rfl,fun j v _ h=>K j v _ _ hb h,Or.inl ⟨by rw [RV.mn (L:=L) (i:=9) (j:=11) (by decide)];exact (RV.ny hH A_11_9 hl),hB9.trans (hb.mono hB9.size)⟩⟩)⟩)) ?_
            refine RV.cc 10 (RV.does_step (fun γ L a w hH hl hA=>by have e0:=hH.got d3 r3 (hA ⟨3,.data⟩ (by simp) rfl);have e1:=hH.got d6 r6 (hA ⟨6,.data⟩ (by simp) rfl);have e2:=hH.got d9 r9 (hA ⟨9,.data⟩ (by simp) rfl);have hB9:=early9 hH.glob (RV.ny hH A_11_10 hl);exact ⟨.slice (some ⟨w.heap.size,0,none⟩) 3 3,w.alloc (.cells #[.int .i64 (pb.sub pa).x,.int .i64 (pb.sub pa).y,.int .i64 (pb.sub pa).z,.int .i64 (pc.sub pa).x,.int .i64 (pc.sub pa).y,.int .i64 (pc.sub pa).z,.int .i64 (pc.sub pb).x,.int .i64 (pc.sub pb).y,.int .i64 (pc.sub pb).z] 23),by simp [execOp,go_sem,e0,e1,e2],(r10 _ _).mpr ⟨w.heap.size,rfl,hB9.size,by simp,at_new w (pb.sub pa) (pc.sub pa) (pc.sub pb) _⟩,fun j v _ h=>K j v _ _ (n_after w _) h,Or.inl ⟨by rw [RV.mn (L:=L) (i:=10) (j:=11) (by decide)];exact (RV.ny hH A_11_10 hl),hB9.trans ((n_after w _).mono hB9.size)⟩⟩)) ?_
            refine RV.cc 11 (RV.dc (fun γ L a w hH hl hA=>by have e0:=hH.got d0 r0 (hA ⟨0,.data⟩ (by simp) rfl);have l1:L 10 = true:=hA ⟨10,.data⟩ (by simp) rfl;have e1:=hH.slot 10 94 d10 l1;have g1:=hH.holds 10 l1;rw [r10] at g1;have hB9:=early9 hH.glob hl;obtain ⟨g9,t1,t2,t3,t4⟩:=g1;rw [t1] at e1;refine ⟨125,#[.slice oe E.length ce,.slice (some ⟨g9,0,none⟩) 3 3],by simp [go_sem,e0,e1],Calls.mono (withEdges_any w0.heap.size g9 _ E [pb.sub pa,pc.sub pa,pc.sub pb] w (own_below HT.out.re hB9) t4 (fun e=>by have:=(HT.out.re.lt _ e).2;omega) t3 (Nat.le_trans HT.out.below.size hB9.size) (by omega) (by simp)) ?_⟩;rintro e w2 ⟨u',rfl,own2,grew2⟩;exact ⟨_,rfl,(r11 _ _).mpr ⟨own2,(Grew.below hB9 _).trans grew2⟩,fun j v hLj h=>K2 j v w w2 (fun e=>by subst e;rw [hl] at hLj;cases hLj) (fun e=>by subst e;rw [RV.ny hH A_12_11 hl] at hLj;cases hLj) grew2.grown (fun g hg e=>by have:=(HT.out.re.lt _ e).2;omega) h,Or.inr ⟨RV.more_self,trivial⟩⟩)) ?_
            refine RV.cc 12 (RV.dp (fun γ v L w hl h=>by rw [RV.mn (L:=L) (i:=12) (j:=11) (by decide)];exact h) (fun γ L a w hH hl hA=>by have l0:L 11 = true:=hA ⟨11,.data⟩ (by simp) rfl;have e0:=hH.slot 11 95 d11 l0;have g0:=hH.holds 11 l0;rw [r11] at g0;exact ⟨γ 11,by simp [execOp,go_sem,e0],(r12 _ _).mpr g0⟩)) ?_
            exact RV.AllDo.nil
           ·intro γ a5 w5 L9 hL hLo hH
            have ha:=RV.held_act hH hL (by kernel_rfl) (by kernel_rfl)
            have y12:=hH.holds 12 (hL 12 (by decide))
            dsimp only at y12
            obtain ⟨yo,yg⟩:=y12
            have HT:Hid _:=HT.out.edge yo yg
            clear yo yg
            rw [ha]
            clear ha hH hL hLo
            simp only [RV.putAll,Act.put,List.setIfInBounds_toArray,List.set_cons_zero,List.set_cons_succ,Nat.zero_add,Nat.reduceAdd]
            generalize γ 12 = u12 at *
            obtain ⟨oe',ce',rfl,_⟩:=(Lies.of_row HT.out.re).form
            clear p0 p1 p2 q0 q1 q2 s0 s1 s2 L1 L2 L3
            go_wp2_with (fail)
            go_roundg (L.length - (j + 1) - (k + 1))
            case measure=>have:=HG3.out;omega
            case rel=>exact ⟨k + 1,A',_,oa',oe',ca',ce',rfl,rfl,by go_num,by omega,rfl,by omega,by simp at hE';omega,HD,HT.out.tail.tail⟩
      ·have HD:Hid (outerP L (L.drop (i + 1)) (midP L pa (L.drop (j + 1)) (A,E)) = R):=by show _ = _;rw [<- HD.out,List.drop_eq_nil_of_le (by omega:L.length <= j + 1 + k)];rfl
       go_wp2_with (fail)
       rw [Exit.noGoto_normal]
       go_wp2_with (fail)
       go_roundg (L.length - (j + 1))
       case measure=>have:=HG2.out;omega
       case rel=>exact ⟨j + 1,A,E,oa,oe,ca,ce,rfl,rfl,by go_num,by omega,by omega,rfl,by omega,by omega,HD,HT.out.tail⟩
    ·have HD:Hid (outerP L (L.drop (i + 1)) (A,E) = R):=by show _ = _;rw [<- HD.out,List.drop_eq_nil_of_le (by omega:L.length <= j)];rfl
     go_wp2_with (fail)
     go_roundg (L.length - (i + 1))
     case measure=>have:=HG1.out;omega
     case rel=>exact ⟨i + 1,A,E,oa,oe,ca,ce,rfl,rfl,by go_num,by omega,rfl,by omega,by omega,HD,HT.out.tail⟩
  ·have e:R = (A,E):=by rw [<- HD.out,List.drop_eq_nil_of_le (by omega:L.length <= i)];rfl
   subst e
   go_wp2_with (fail)
   go_ret2
   exact ⟨_,_,rfl,HT.out⟩
end
section
open Go.RowKit Go.Shelf
def mayP (L:List Pt):Bool:=decide (4 <= L.length/\L.length <= 12) && (L.all (fun p=>p.inB 65536) && decide L.Nodup)
theorem Lies.take {w:World} {o:Option Addr} {n c:Nat} {L:List Pt} (h:Lies w (.slice o L.length c) L) (k:Nat) (hk:k <= L.length):Lies w (.slice o k c) (L.take k):=by
 obtain ⟨o',c',e,h1,h2,h3⟩:=h.form
 simp only [Value.slice.injEq,true_and] at e
 obtain ⟨rfl,rfl⟩:=e
 have hl:(L.take k).length = k:=by simp;omega
 refine ⟨o,c,by rw [hl],by omega,h2,fun i hi=>?_⟩
 rw [hl] at hi
 obtain ⟨g,off,e,a,b,c⟩:=h3 i (by omega)
 rw [pt_take hi]
 exact ⟨g,off,e,a,b,c⟩
theorem all_snoc (L:List Pt) (f:Pt->Bool) (k:Nat) (hk:k < L.length):(L.take (k + 1)).all f = ((L.take k).all f && f (pt L k)):=by
 rw [take_pt hk];simp
theorem nodup_snoc (L:List Pt) (k:Nat) (hk:k < L.length) (h:(L.take k).Nodup):(L.take (k + 1)).Nodup ↔ pt L k ∉ L.take k:=by
 rw [take_pt hk,List.nodup_append]
 constructor
 ·intro hh hm
  exact hh.2.2 _ hm _ (by simp) rfl
 ·intro hn
  refine ⟨h,by simp,fun a ha b hb e=>hn ?_⟩
  rw [List.mem_singleton] at hb
  rw [<- hb,<- e];exact ha
theorem pointsMayBe_any (v:Value) (Ls:List Pt) (w0:World) (hv:Lies w0 v Ls) :
  Calls Tryz.prog 133 #[v] w0 fun e W=>e = .returned (.bool (mayP Ls))/\Below w0.heap.size w0 W:=by
 obtain ⟨o,c,rfl,hlc,hcm,hcell⟩:=hv.form
 have HV:Hid _:=hv
 have HC:Hid _:=hcell
 clear hv hcell
 obtain ⟨R,hR⟩:∃ R,mayP Ls = R:=⟨_,rfl⟩
 rw [hR]
 have HR:Hid _:=hR
 clear hR
 by_cases h4:4 <= Ls.length
 ·by_cases h12:Ls.length <= 12
  ·have HR:Hid (R = (Ls.all (fun p=>p.inB 65536) && decide Ls.Nodup)):=by show _ = _;rw [<- HR.out];unfold mayP;simp [h4,h12]
   have h4':4 <= (Ls.length:Int):=by omega
   have h12':(Ls.length:Int) <= 12:=by omega
   go_enter Tryz.func133,Tryz.ntmps133
   go_wp2
   go_loopg [11] Ls.length (fun gm i wr=>∃ k:Nat,i = .int .i64 (k:Int)/\k <= Ls.length/\gm = Ls.length - k/\Hid ((Ls.take k).all (fun p=>p.inB 65536) = true)/\Hid (Ls.take k).Nodup/\Hid (Below w0.heap.size w0 wr))
   case atStart=>exact ⟨0,rfl,Nat.zero_le _,rfl,rfl,by simp [Hid],Below.refl _ _⟩
   case round =>
    obtain ⟨k,rfl,hk,hgm,HA,HN,HB⟩:=hrel
    have HG:Hid _:=hgm
    clear hgm
    by_cases hlt:k < Ls.length
    ·obtain ⟨g,off,rfl,x0,x1,x2⟩:=HC.out k hlt
     have x0:=c_after HB.out x0
     have x1:=c_after HB.out x1
     have x2:=c_after HB.out x2
     have HS1:Hid _:=all_snoc Ls (fun p=>p.inB 65536) k hlt
     have HS2:Hid _:=nodup_snoc Ls k hlt HN.out
     generalize hp:pt Ls k = p at *
     have HP:Hid _:=hp
     clear hp
     go_upto_region 6 with fail
     obtain ⟨V,hV⟩:∃ V:World,V = wr.alloc (.cells #[.int .i64 p.x,.int .i64 p.y,.int .i64 p.z] 23):=⟨_,rfl⟩
     obtain ⟨bp,hbp⟩:∃ bp,bp = wr.heap.size:=⟨_,rfl⟩
     have bx:Box3 (wr.alloc (.cells #[.int .i64 p.x,.int .i64 p.y,.int .i64 p.z] 23)) wr.heap.size p:=Box3.new wr p.x p.y p.z _
     have HBV:Hid (Below w0.heap.size w0 V):=by rw [hV];exact b_step HB.out (n_after _ _)
     rw [<- hV,<- hbp] at bx ⊢
     clear hV hbp x0 x1 x2
     obtain ⟨p0,p1,p2,_,_,_⟩:=bx
     have L1:Hid _:=fun w'=>within_any p 65536 w' (by decide) (by decide)
     have L2:Hid (∀ w',Below V.heap.size V w'->Calls Tryz.prog 135 #[.slice (some ⟨g,off,none⟩) k c,p.v] w' fun e W=>e = .returned (.bool (decide (p ∈ Ls.take k)))/\Below w'.heap.size w' W):=fun w' hb=>contains_any _ (Ls.take k) p w' ((HV.out.take (n:=0) k hk).below (b_step HBV.out hb))
     unfold Pt.v at L1 L2
     have hkc:(k:Int) <= (c:Int):=by omega
     cases hw:p.inB 65536 with
     | false =>
      rw [hw] at L1
      have e:R = false:=by
       rw [HR.out]
       have:Ls.all (fun p=>p.inB 65536) = false:=by
        rw [List.all_eq_false]
        exact ⟨p,by rw [<- HP.out];exact pt_mem hlt,by rw [hw];decide⟩
       rw [this];rfl
      subst e
      refine RV.rs [.some (.agg #[.int .i64 p.x,.int .i64 p.y,.int .i64 p.z]),.some (.bool (false)),.some (.bool (true)),.some (.bool (true)),.some (undef),.some (undef),.some (undef),.some (undef),.some (undef),.some (.bool (true))] [17,18,19,20,21,22,23,24,25,26] [(0,.slice (some ⟨g,off,none⟩) Ls.length c),(3,.int .i64 ((k:Int))),(4,.pointer (some ⟨bp,0,none⟩))] (fun γ L w9=>Below V.heap.size V w9) ⟨rfl,rfl,rfl,trivial⟩ ?_ ?_ ?_
      ·exact (Below.refl _ V).drew
      ·intro D WA Z hD hWA hZ T
       simp only [RV.Outs,RV.Slots,Nat.reduceAdd] at T
       (refine RV.cc _ (RV.pu T (fun γ v L w hl h=>h) (fun γ L a w hH hl h9 k9=>⟨_,?_,rfl⟩)) ?_;· have hB9:=hH.glob;have q0:=c_after hB9 p0;have q1:=c_after hB9 p1;have q2:=c_after hB9 p2;simp [execOp,go_sem,h9,q0,q1,q2])
       refine RV.cc _ (RV.dc (fun γ L a w hH hl hA=>by have h9:=T γ L a w hH;have k9:=hA;simp [Region.binds] at k9;have hB9:=hH.glob;exact ⟨110,#[.agg #[.int .i64 p.x,.int .i64 p.y,.int .i64 p.z],.int .i64 65536],by simp [go_sem,h9,k9],Calls.mono (L1.out w) (by rintro e w2 ⟨rfl,hb⟩;exact ⟨_,rfl,rfl,fun j v _ h=>h.keep _,hB9.trans (hb.mono hB9.size)⟩)⟩)) ?_
       iterate 2 (refine RV.cc _ (RV.pu T (fun γ v L w hl h=>h) (fun γ L a w hH hl h9 k9=>⟨_,?_,rfl⟩)) ?_;· simp [Region.binds] at k9;simp [execOp,go_sem,h9,k9])
       refine RV.cc _ (RV.does_skip rfl (by rw [<- hD];rfl) (fun v w h=>h) (by simp) (fun w=>rfl) (fun γ v L w hl h=>h)) ?_
       refine RV.cc _ (RV.does_skip rfl (by rw [<- hD];rfl) (fun v w h=>h) (by simp) (fun w=>rfl) (fun γ v L w hl h=>h)) ?_
       refine RV.cc _ (RV.does_skip rfl (by rw [<- hD];rfl) (fun v w h=>h) (by simp) (fun w=>rfl) (fun γ v L w hl h=>h)) ?_
       refine RV.cc _ (RV.does_skip rfl (by rw [<- hD];rfl) (fun v w h=>h) (by simp) (fun w=>rfl) (fun γ v L w hl h=>h)) ?_
       refine RV.cc _ (RV.does_skip rfl (by rw [<- hD];rfl) (fun v w h=>h) (by simp) (fun w=>rfl) (fun γ v L w hl h=>h)) ?_
       (refine RV.cc _ (RV.pu T (fun γ v L w hl h=>h) (fun γ L a w hH hl h9 k9=>⟨_,?_,rfl⟩)) ?_;· simp [Region.binds] at k9;simp [execOp,go_sem,h9,k9])
       exact RV.AllDo.nil
      ·intro γ w5 L9 hL hI9 hG9
       have hb8:=hG9
       clear hL hI9 hG9
       simp only [RV.putL,Act.put,List.setIfInBounds_toArray,List.set_cons_zero,List.set_cons_succ]
       have HB5:Hid _:=HBV.out.trans (hb8.mono HBV.out.size)
       clear hb8 L1 L2 p0 p1 p2
       go_wp2_with (fail)
       go_ret
       exact ⟨rfl,HB5.out⟩
     | true =>
      rw [hw] at L1
      by_cases hm:p ∈ Ls.take k
      ·have hd:decide (p ∈ Ls.take k) = true:=decide_eq_true hm
       rw [hd] at L2
       have e:R = false:=by
        rw [HR.out]
        have:decide Ls.Nodup = false:=by
         refine decide_eq_false fun hn=>?_
         have:=HS2.out.1 (hn.sublist (List.take_sublist _ _))
         exact this hm
        rw [this];simp
       subst e
       clear hd hm
       refine RV.rs [.some (.agg #[.int .i64 p.x,.int .i64 p.y,.int .i64 p.z]),.some (.bool (true)),.some (.bool (false)),.some (.bool (false)),.some (.slice (some ⟨g,off,none⟩) Ls.length c),.some (.int .i64 ((k:Int))),.some (.slice (some ⟨g,off,none⟩) k c),.some (.agg #[.int .i64 p.x,.int .i64 p.y,.int .i64 p.z]),.some (.bool (true)),.some (.bool (true))] [17,18,19,20,21,22,23,24,25,26] [(0,.slice (some ⟨g,off,none⟩) Ls.length c),(3,.int .i64 ((k:Int))),(4,.pointer (some ⟨bp,0,none⟩))] (fun γ L w9=>Below V.heap.size V w9) ⟨rfl,rfl,rfl,trivial⟩ ?_ ?_ ?_
       ·exact (Below.refl _ V).drew
       ·intro D WA Z hD hWA hZ T
        simp only [RV.Outs,RV.Slots,Nat.reduceAdd] at T
        (refine RV.cc _ (RV.pu T (fun γ v L w hl h=>h) (fun γ L a w hH hl h9 k9=>⟨_,?_,rfl⟩)) ?_;· have hB9:=hH.glob;have q0:=c_after hB9 p0;have q1:=c_after hB9 p1;have q2:=c_after hB9 p2;simp [execOp,go_sem,h9,q0,q1,q2])
        refine RV.cc _ (RV.dc (fun γ L a w hH hl hA=>by have h9:=T γ L a w hH;have k9:=hA;simp [Region.binds] at k9;have hB9:=hH.glob;exact ⟨110,#[.agg #[.int .i64 p.x,.int .i64 p.y,.int .i64 p.z],.int .i64 65536],by simp [go_sem,h9,k9],Calls.mono (L1.out w) (by rintro e w2 ⟨rfl,hb⟩;exact ⟨_,rfl,rfl,fun j v _ h=>h.keep _,hB9.trans (hb.mono hB9.size)⟩)⟩)) ?_
        iterate 6 first
         | (refine RV.cc _ (RV.dg rfl (by rw [<- hD];rfl) (fun v w h=>h) (by simp) (RV.pu T (fun γ v L w hl h=>h) (fun γ L a w hH hl h9 k9=>⟨_,?_,rfl⟩))) ?_;· simp [execOp,go_sem,h9])
         | (refine RV.cc _ (RV.pu T (fun γ v L w hl h=>h) (fun γ L a w hH hl h9 k9=>⟨_,?_,rfl⟩)) ?_;· simp [Region.binds] at k9;simp [execOp,go_sem,h9,k9])
         | (refine RV.cc _ (RV.dg rfl (by rw [<- hD];rfl) (fun v w h=>h) (by simp) (RV.pu T (fun γ v L w hl h=>h) (fun γ L a w hH hl h9 k9=>⟨_,?_,rfl⟩))) ?_;· simp [Region.binds] at k9;simp [execOp,go_sem,h9,k9,hkc])
         | (refine RV.cc _ (RV.dg rfl (by rw [<- hD];rfl) (fun v w h=>h) (by simp) (RV.pu T (fun γ v L w hl h=>h) (fun γ L a w hH hl h9 k9=>⟨_,?_,rfl⟩))) ?_;· have hB9:=hH.glob;have q0:=c_after hB9 p0;have q1:=c_after hB9 p1;have q2:=c_after hB9 p2;simp [execOp,go_sem,h9,q0,q1,q2])
        refine RV.cc _ (RV.dg rfl (by rw [<- hD];rfl) (fun v w h=>h) (by simp) (RV.dc (fun γ L a w hH hl hA=>by have h9:=T γ L a w hH;have k9:=hA;simp [Region.binds] at k9;have hB9:=hH.glob;exact ⟨135,#[.slice (some ⟨g,off,none⟩) k c,.agg #[.int .i64 p.x,.int .i64 p.y,.int .i64 p.z]],by simp [go_sem,h9,k9],Calls.mono (L2.out w hB9) (by rintro e w2 ⟨rfl,hb⟩;exact ⟨_,rfl,rfl,fun j v _ h=>h.keep _,hB9.trans (hb.mono hB9.size)⟩)⟩))) ?_
        (refine RV.cc _ (RV.pu T (fun γ v L w hl h=>h) (fun γ L a w hH hl h9 k9=>⟨_,?_,rfl⟩)) ?_;· simp [Region.binds] at k9;simp [execOp,go_sem,h9,k9])
        exact RV.AllDo.nil
       ·intro γ w5 L9 hL hI9 hG9
        have hb8:=hG9
        clear hL hI9 hG9
        simp only [RV.putL,Act.put,List.setIfInBounds_toArray,List.set_cons_zero,List.set_cons_succ]
        have HB5:Hid _:=HBV.out.trans (hb8.mono HBV.out.size)
        clear hb8 L1 L2 p0 p1 p2
        go_wp2_with (fail)
        go_ret
        exact ⟨rfl,HB5.out⟩
      ·have hd:decide (p ∈ Ls.take k) = false:=decide_eq_false hm
       rw [hd] at L2
       have HS1:Hid ((Ls.take (k + 1)).all (fun p=>p.inB 65536) = true):=by show _ = _;rw [HS1.out,HA.out,hw];rfl
       have HS2:Hid (Ls.take (k + 1)).Nodup:=HS2.out.2 hm
       clear hd hm
       refine RV.rs [.some (.agg #[.int .i64 p.x,.int .i64 p.y,.int .i64 p.z]),.some (.bool (true)),.some (.bool (false)),.some (.bool (false)),.some (.slice (some ⟨g,off,none⟩) Ls.length c),.some (.int .i64 ((k:Int))),.some (.slice (some ⟨g,off,none⟩) k c),.some (.agg #[.int .i64 p.x,.int .i64 p.y,.int .i64 p.z]),.some (.bool (false)),.some (.bool (false))] [17,18,19,20,21,22,23,24,25,26] [(0,.slice (some ⟨g,off,none⟩) Ls.length c),(3,.int .i64 ((k:Int))),(4,.pointer (some ⟨bp,0,none⟩))] (fun γ L w9=>Below V.heap.size V w9) ⟨rfl,rfl,rfl,trivial⟩ ?_ ?_ ?_
       ·exact (Below.refl _ V).drew
       ·intro D WA Z hD hWA hZ T
        simp only [RV.Outs,RV.Slots,Nat.reduceAdd] at T
        (refine RV.cc _ (RV.pu T (fun γ v L w hl h=>h) (fun γ L a w hH hl h9 k9=>⟨_,?_,rfl⟩)) ?_;· have hB9:=hH.glob;have q0:=c_after hB9 p0;have q1:=c_after hB9 p1;have q2:=c_after hB9 p2;simp [execOp,go_sem,h9,q0,q1,q2])
        refine RV.cc _ (RV.dc (fun γ L a w hH hl hA=>by have h9:=T γ L a w hH;have k9:=hA;simp [Region.binds] at k9;have hB9:=hH.glob;exact ⟨110,#[.agg #[.int .i64 p.x,.int .i64 p.y,.int .i64 p.z],.int .i64 65536],by simp [go_sem,h9,k9],Calls.mono (L1.out w) (by rintro e w2 ⟨rfl,hb⟩;exact ⟨_,rfl,rfl,fun j v _ h=>h.keep _,hB9.trans (hb.mono hB9.size)⟩)⟩)) ?_
        iterate 6 first
         | (refine RV.cc _ (RV.dg rfl (by rw [<- hD];rfl) (fun v w h=>h) (by simp) (RV.pu T (fun γ v L w hl h=>h) (fun γ L a w hH hl h9 k9=>⟨_,?_,rfl⟩))) ?_;· simp [execOp,go_sem,h9])
         | (refine RV.cc _ (RV.pu T (fun γ v L w hl h=>h) (fun γ L a w hH hl h9 k9=>⟨_,?_,rfl⟩)) ?_;· simp [Region.binds] at k9;simp [execOp,go_sem,h9,k9])
         | (refine RV.cc _ (RV.dg rfl (by rw [<- hD];rfl) (fun v w h=>h) (by simp) (RV.pu T (fun γ v L w hl h=>h) (fun γ L a w hH hl h9 k9=>⟨_,?_,rfl⟩))) ?_;· simp [Region.binds] at k9;simp [execOp,go_sem,h9,k9,hkc])
         | (refine RV.cc _ (RV.dg rfl (by rw [<- hD];rfl) (fun v w h=>h) (by simp) (RV.pu T (fun γ v L w hl h=>h) (fun γ L a w hH hl h9 k9=>⟨_,?_,rfl⟩))) ?_;· have hB9:=hH.glob;have q0:=c_after hB9 p0;have q1:=c_after hB9 p1;have q2:=c_after hB9 p2;simp [execOp,go_sem,h9,q0,q1,q2])
        refine RV.cc _ (RV.dg rfl (by rw [<- hD];rfl) (fun v w h=>h) (by simp) (RV.dc (fun γ L a w hH hl hA=>by have h9:=T γ L a w hH;have k9:=hA;simp [Region.binds] at k9;have hB9:=hH.glob;exact ⟨135,#[.slice (some ⟨g,off,none⟩) k c,.agg #[.int .i64 p.x,.int .i64 p.y,.int .i64 p.z]],by simp [go_sem,h9,k9],Calls.mono (L2.out w hB9) (by rintro e w2 ⟨rfl,hb⟩;exact ⟨_,rfl,rfl,fun j v _ h=>h.keep _,hB9.trans (hb.mono hB9.size)⟩)⟩))) ?_
        (refine RV.cc _ (RV.pu T (fun γ v L w hl h=>h) (fun γ L a w hH hl h9 k9=>⟨_,?_,rfl⟩)) ?_;· simp [Region.binds] at k9;simp [execOp,go_sem,h9,k9])
        exact RV.AllDo.nil
       ·intro γ w5 L9 hL hI9 hG9
        have hb8:=hG9
        clear hL hI9 hG9
        simp only [RV.putL,Act.put,List.setIfInBounds_toArray,List.set_cons_zero,List.set_cons_succ]
        have HB5:Hid _:=HBV.out.trans (hb8.mono HBV.out.size)
        clear hb8 L1 L2 p0 p1 p2
        go_wp2_with (fail)
        go_roundg (Ls.length - (k + 1))
        case measure=>have:=HG.out;omega
        case rel=>exact ⟨k + 1,by go_num,by omega,rfl,HS1,HS2,HB5⟩
    ·have e:R = true:=by
      rw [HR.out]
      have e1:=HA.out
      have e2:=HN.out
      rw [List.take_of_length_le (by omega:Ls.length <= k)] at e1 e2
      rw [e1,decide_eq_true e2];rfl
     subst e
     go_wp2_with (fail)
     go_ret
     exact ⟨rfl,HB.out⟩
  ·have e:R = false:=by rw [<- HR.out];unfold mayP;simp [h12]
   subst e
   have h12':¬ (Ls.length:Int) <= 12:=by omega
   clear HR
   go_enter Tryz.func133,Tryz.ntmps133
   go_wp2
   go_ret
   exact ⟨rfl,Below.refl _ _⟩
 ·have e:R = false:=by rw [<- HR.out];unfold mayP;simp [h4]
  subst e
  have h4':¬ 4 <= (Ls.length:Int):=by omega
  clear HR
  go_enter Tryz.func133,Tryz.ntmps133
  go_wp2
  go_ret
  exact ⟨rfl,Below.refl _ _⟩
def halfOk (n:Int):Bool:=decide (1 <= n/\n <= 65536)
theorem halves_any (l:List Int) (g:Nat) (w:World) (hc:∀ i,i < l.length->w.cell? ⟨g,i,none⟩ = some (.int .i64 (l.getD i 0))) (hl:l.length <= 100) :
  Calls Tryz.prog 132 #[.slice (some ⟨g,0,none⟩) l.length l.length] w fun e W=>e = .returned (.bool (l.all halfOk))/\W = w:=by
 have HC:Hid _:=hc
 clear hc
 obtain ⟨R,hR⟩:∃ R,l.all halfOk = R:=⟨_,rfl⟩
 rw [hR]
 have HR:Hid _:=hR
 clear hR
 go_enter Tryz.func132,Tryz.ntmps132
 go_wp2
 go_loop [7] (fun i=>∃ k:Nat,i = .int .i64 (k:Int)/\k <= l.length/\Hid ((l.take k).all halfOk = true)) (fun i=>l.length - (intOf i).toNat)
 case atStart=>exact ⟨0,rfl,Nat.zero_le _,rfl⟩
 case round =>
  obtain ⟨k,rfl,hk,HA⟩:=hrel
  by_cases hlt:k < l.length
  ·have hcell:=HC.out k hlt
   have hmem:l.getD k 0 ∈ l:=by rw [List.getD_eq_getElem?_getD,List.getElem?_eq_getElem hlt];exact List.getElem_mem hlt
   have HS:Hid ((l.take (k + 1)).all halfOk = ((l.take k).all halfOk && halfOk (l.getD k 0))):=by show _ = _;rw [List.take_succ_eq_append_getElem hlt,List.all_append,List.getD_eq_getElem?_getD,List.getElem?_eq_getElem hlt];simp
   have HM:Hid (halfOk (l.getD k 0) = false->R = false):=fun h=>by
    rw [<- HR.out,List.all_eq_false]
    exact ⟨_,hmem,by rw [h];decide⟩
   clear hmem
   generalize l.getD k 0 = n at *
   by_cases h1:1 <= n
   ·by_cases h2:n <= 65536
    ·have HS:Hid ((l.take (k + 1)).all halfOk = true):=by show _ = _;rw [HS.out,HA.out];simp [halfOk,h1,h2]
     go_wp2
     go_round
     case rel=>exact ⟨k + 1,by go_num,by omega,HS⟩
     case measure=>simp [intOf];omega
    ·have e:R = false:=HM.out (by simp [halfOk,h2])
     subst e
     go_wp2
     go_ret
     exact ⟨rfl,rfl⟩
   ·have e:R = false:=HM.out (by simp [halfOk,h1])
    subst e
    go_wp2
    go_ret
    exact ⟨rfl,rfl⟩
  ·have e:R = true:=by
    have e1:=HA.out
    rw [List.take_of_length_le (by omega:l.length <= k)] at e1
    rw [<- HR.out];exact e1
   subst e
   go_wp2
   go_ret
   exact ⟨rfl,rfl⟩
end
section
open Go.RowKit Go.Shelf
theorem flat_any (v:Value) (Ls:List Pt) (w0:World) (hv:Lies w0 v Ls) (h4:4 <= Ls.length) (h12:Ls.length <= 12) (hin:∀ p ∈ Ls,p.inB 65536 = true) :
  Calls Tryz.prog 119 #[v] w0 fun e W=>e = .returned (.bool (flatP Ls))/\Below w0.heap.size w0 W:=by
 obtain ⟨o,c,rfl,hlc,hcm,hcell⟩:=hv.form
 have HC:Hid _:=hcell
 have HIN:Hid _:=hin
 obtain ⟨g,off,rfl,x0,x1,x2⟩:=hcell 0 (by omega)
 obtain ⟨g',off',e',y0,y1,y2⟩:=hcell 1 (by omega)
 simp only [Option.some.injEq,Addr.mk.injEq,and_true] at e'
 obtain ⟨rfl,rfl⟩:=e'
 clear hcell hv hin
 simp only [Nat.zero_mul,Nat.add_zero,Nat.one_mul] at x0 x1 x2 y0 y1 y2
 have hgl:g < w0.heap.size:=World.block_lt_of_cell? _ _ x0
 have hl0:0 < Ls.length:=by omega
 have hl1:1 < Ls.length:=by omega
 have hain:(pt Ls 0).inB 65536 = true:=HIN.out _ (pt_mem hl0)
 have hbin:(pt Ls 1).inB 65536 = true:=HIN.out _ (pt_mem hl1)
 obtain ⟨R,hR⟩:∃ R,flatP Ls = R:=⟨_,rfl⟩
 rw [hR]
 have HR:Hid (Ls.all (fun c=>Ls.all fun m=>decide (vol (pt Ls 0) (pt Ls 1) c m = 0)) = R):=hR
 clear hR
 generalize pt Ls 0 = pa at *
 generalize pt Ls 1 = pb at *
 go_enter Tryz.func119,Tryz.ntmps119
 go_upto_region 1 with fail
 go_cut [3,4] from 10 (fun s3 s4 wc=>∃ ba bb,s3 = .pointer (some ⟨ba,0,none⟩)/\s4 = .pointer (some ⟨bb,0,none⟩)/\Hid (Box3 wc ba pa)/\Hid (Box3 wc bb pb)/\Hid (Below w0.heap.size w0 wc))
 case first =>
  go_region
  ·go_wp2_with (fail)
   go_meet
   case rel=>exact ⟨_,_,rfl,rfl,(Box3.new w0 pa.x pa.y pa.z _).step ((n_after _ _).drew),(by have:=Box3.new (w0.alloc (.cells #[.int .i64 pa.x,.int .i64 pa.y,.int .i64 pa.z] 23)) pb.x pb.y pb.z 23;rw [World.size_alloc] at this;exact this.step (Below.refl _ _).drew),(b_step (n_after w0 _) (n_after _ _)).drew⟩
  ·go_wp2_with (fail)
   go_meet
   case rel=>exact ⟨_,_,rfl,rfl,(by have:=Box3.new (w0.alloc (.cells #[.int .i64 pb.x,.int .i64 pb.y,.int .i64 pb.z] 23)) pa.x pa.y pa.z 23;rw [World.size_alloc] at this;exact this.step (Below.refl _ _).drew),(Box3.new w0 pb.x pb.y pb.z _).step ((n_after _ _).drew),(b_step (n_after w0 _) (n_after _ _)).drew⟩
 case rest =>
  obtain ⟨ba,bb,rfl,rfl,BA,BB,HB⟩:=hcut
  clear x0 x1 x2 y0 y1 y2
  go_wp2_with (fail)
  go_loopg [18] Ls.length (fun gm i wr=>∃ k:Nat,i = .int .i64 (k:Int)/\k <= Ls.length/\gm = Ls.length - k/\Hid ((Ls.take k).all (fun c=>Ls.all fun m=>decide (vol pa pb c m = 0)) = true)/\Hid (Below wc.heap.size wc wr))
  case atStart=>exact ⟨0,rfl,Nat.zero_le _,rfl,rfl,Below.refl _ _⟩
  case round =>
   obtain ⟨k,rfl,hk,hgm,HA,HBr⟩:=hrel
   have HG1:Hid _:=hgm
   clear hgm
   by_cases hlt:k < Ls.length
   ·obtain ⟨g',off',e',x0,x1,x2⟩:=HC.out k hlt
    simp only [Option.some.injEq,Addr.mk.injEq,and_true] at e'
    obtain ⟨rfl,rfl⟩:=e'
    have x0:=c_after (b_step HB.out HBr.out) x0
    have x1:=c_after (b_step HB.out HBr.out) x1
    have x2:=c_after (b_step HB.out HBr.out) x2
    have hcin:=HIN.out _ (pt_mem hlt)
    have HS1:Hid _:=all_snoc Ls (fun c=>Ls.all fun m=>decide (vol pa pb c m = 0)) k hlt
    have HM:Hid ((Ls.all fun m=>decide (vol pa pb (pt Ls k) m = 0)) = false->R = false):=fun h=>by
     rw [<- HR.out,List.all_eq_false]
     exact ⟨_,pt_mem hlt,by rw [h];decide⟩
    generalize pt Ls k = pc at *
    go_upto_region 5 with fail
    obtain ⟨V,hV⟩:∃ V:World,V = wr.alloc (.cells #[.int .i64 pc.x,.int .i64 pc.y,.int .i64 pc.z] 23):=⟨_,rfl⟩
    obtain ⟨bc,hbc⟩:∃ bc,bc = wr.heap.size:=⟨_,rfl⟩
    have BC:Hid (Box3 (wr.alloc (.cells #[.int .i64 pc.x,.int .i64 pc.y,.int .i64 pc.z] 23)) wr.heap.size pc):=Box3.new wr pc.x pc.y pc.z _
    have HBV:Hid (Below wc.heap.size wc V):=by rw [hV];exact b_step HBr.out (n_after _ _)
    rw [<- hV,<- hbc] at BC ⊢
    clear hV hbc x0 x1 x2
    obtain ⟨p0,p1,p2,_,_,_⟩:=BA.out.step HBV.out
    obtain ⟨q0,q1,q2,_,_,_⟩:=BB.out.step HBV.out
    obtain ⟨s0,s1,s2,_,_,_⟩:=BC.out
    go_wp2_with (fail)
    refine Calls.mono (across_any pa pb pc _ hain hbin hcin) ?_
    rintro e W4 ⟨rfl,hb4⟩
    have HB4:Hid _:=b_step HBV.out hb4
    clear hb4 p0 p1 p2 q0 q1 q2 s0 s1 s2
    have hnin:=cross_in (sub_in hbin hain) (sub_in hcin hain)
    have HVO:Hid (∀ m,vol pa pb pc m = ((pb.sub pa).cross (pc.sub pa)).dot (m.sub pa)):=fun m=>rfl
    generalize (pb.sub pa).cross (pc.sub pa) = n at *
    unfold Pt.v
    go_upto_region 6 with fail
    obtain ⟨W5,hW5⟩:∃ W5:World,W5 = W4.alloc (.cells #[.int .i64 n.x,.int .i64 n.y,.int .i64 n.z] 23):=⟨_,rfl⟩
    obtain ⟨bn,hbn⟩:∃ bn,bn = W4.heap.size:=⟨_,rfl⟩
    have BN:Hid (Box3 (W4.alloc (.cells #[.int .i64 n.x,.int .i64 n.y,.int .i64 n.z] 23)) W4.heap.size n):=Box3.new W4 n.x n.y n.z _
    have HB5:Hid (Below wc.heap.size wc W5):=by rw [hW5];exact b_step HB4.out (n_after _ _)
    rw [<- hW5,<- hbn] at BN ⊢
    clear hW5 hbn
    have BA2:Hid _:=BA.out.step HB5.out
    go_wp2_with (fail)
    go_loopg [28] Ls.length (fun gm i wx=>∃ q:Nat,i = .int .i64 (q:Int)/\q <= Ls.length/\gm = Ls.length - q/\Hid (((Ls.take q).all fun m=>decide (vol pa pb pc m = 0)) = true)/\Hid (Below W5.heap.size W5 wx))
    case atStart=>exact ⟨0,rfl,Nat.zero_le _,rfl,rfl,Below.refl _ _⟩
    case round =>
     obtain ⟨q,rfl,hq,hgm,HA2,HBq⟩:=hrel
     have HG2:Hid _:=hgm
     clear hgm
     by_cases hqt:q < Ls.length
     ·obtain ⟨g',off',e',x0,x1,x2⟩:=HC.out q hqt
      simp only [Option.some.injEq,Addr.mk.injEq,and_true] at e'
      obtain ⟨rfl,rfl⟩:=e'
      have x0:=c_after (b_step (b_step HB.out HB5.out) HBq.out) x0
      have x1:=c_after (b_step (b_step HB.out HB5.out) HBq.out) x1
      have x2:=c_after (b_step (b_step HB.out HB5.out) HBq.out) x2
      have hmin:=HIN.out _ (pt_mem hqt)
      have HS2:Hid _:=all_snoc Ls (fun m=>decide (vol pa pb pc m = 0)) q hqt
      have HM2:Hid (¬ vol pa pb pc (pt Ls q) = 0->R = false):=fun h=>HM.out (by
       rw [List.all_eq_false]
       exact ⟨_,pt_mem hqt,by simpa using h⟩)
      rw [HVO.out] at HM2
      generalize hpm:pt Ls q = m at *
      have HPM:Hid _:=hpm
      clear hpm
      go_upto_region 9 with fail
      obtain ⟨W6,hW6⟩:∃ W6:World,W6 = wr.alloc (.cells #[.int .i64 m.x,.int .i64 m.y,.int .i64 m.z] 23):=⟨_,rfl⟩
      obtain ⟨bm,hbm⟩:∃ bm,bm = wr.heap.size:=⟨_,rfl⟩
      have BM:Hid (Box3 (wr.alloc (.cells #[.int .i64 m.x,.int .i64 m.y,.int .i64 m.z] 23)) wr.heap.size m):=Box3.new wr m.x m.y m.z _
      have HB6:Hid (Below W5.heap.size W5 W6):=by rw [hW6];exact b_step HBq.out (n_after _ _)
      rw [<- hW6,<- hbm] at BM ⊢
      clear hW6 hbm x0 x1 x2
      have L1:Hid _:=fun w'=>less_any m pa w' (inB_mono hmin (by decide)) (inB_mono hain (by decide))
      have L2:Hid _:=fun w'=>dot_any n (m.sub pa) w' hnin (sub_in hmin hain)
      unfold Pt.v at L1 L2
      obtain ⟨p0,p1,p2,_,_,_⟩:=BA2.out.step HB6.out
      obtain ⟨q0,q1,q2,_,_,_⟩:=BN.out.step HB6.out
      obtain ⟨s0,s1,s2,_,_,_⟩:=BM.out
      have HVM:Hid (vol pa pb pc m = n.dot (m.sub pa)):=HVO.out m
      refine RV.rs [.some (.agg #[.int .i64 n.x,.int .i64 n.y,.int .i64 n.z]),.some (.agg #[.int .i64 m.x,.int .i64 m.y,.int .i64 m.z]),.some (.agg #[.int .i64 pa.x,.int .i64 pa.y,.int .i64 pa.z]),.some (.agg #[.int .i64 ((m.sub pa).x),.int .i64 ((m.sub pa).y),.int .i64 ((m.sub pa).z)]),.some (.int .i64 (n.dot (m.sub pa))),.some (.bool (n.dot (m.sub pa) != 0))] [33,34,35,36,37,38] [(3,.pointer (some ⟨ba,0,none⟩)),(7,.pointer (some ⟨bn,0,none⟩)),(9,.pointer (some ⟨bm,0,none⟩))] (fun γ L w9=>Below W6.heap.size W6 w9) ⟨rfl,rfl,rfl,trivial⟩ ?_ ?_ ?_
      ·exact (Below.refl _ W6).drew
      ·intro D WA Z hD hWA hZ T
       simp only [RV.Outs,RV.Slots,Nat.reduceAdd] at T
       iterate 3 (refine RV.cc _ (RV.pu T (fun γ v L w hl h=>h) (fun γ L a w hH hl h9 k9=>⟨_,?_,rfl⟩)) ?_;· have hB9:=hH.glob;have q0:=c_after hB9 q0;have q1:=c_after hB9 q1;have q2:=c_after hB9 q2;have q3:=c_after hB9 s0;have q4:=c_after hB9 s1;have q5:=c_after hB9 s2;have q6:=c_after hB9 p0;have q7:=c_after hB9 p1;have q8:=c_after hB9 p2;simp [execOp,go_sem,h9,q0,q1,q2,q3,q4,q5,q6,q7,q8])
       refine RV.cc _ (RV.dc (fun γ L a w hH hl hA=>by have h9:=T γ L a w hH;have k9:=hA;simp [Region.binds] at k9;have hB9:=hH.glob;exact ⟨122,#[.agg #[.int .i64 m.x,.int .i64 m.y,.int .i64 m.z],.agg #[.int .i64 pa.x,.int .i64 pa.y,.int .i64 pa.z]],by simp [go_sem,h9,k9],Calls.mono (L1.out w) (by rintro e w2 ⟨rfl,hb⟩;exact ⟨_,rfl,rfl,fun j v _ h=>h.keep _,hB9.trans (hb.mono hB9.size)⟩)⟩)) ?_
       refine RV.cc _ (RV.dc (fun γ L a w hH hl hA=>by have h9:=T γ L a w hH;have k9:=hA;simp [Region.binds] at k9;have hB9:=hH.glob;exact ⟨121,#[.agg #[.int .i64 n.x,.int .i64 n.y,.int .i64 n.z],.agg #[.int .i64 ((m.sub pa).x),.int .i64 ((m.sub pa).y),.int .i64 ((m.sub pa).z)]],by simp [go_sem,h9,k9],Calls.mono (L2.out w) (by rintro e w2 ⟨rfl,hb⟩;exact ⟨_,rfl,rfl,fun j v _ h=>h.keep _,hB9.trans (hb.mono hB9.size)⟩)⟩)) ?_
       (refine RV.cc _ (RV.pu T (fun γ v L w hl h=>h) (fun γ L a w hH hl h9 k9=>⟨_,?_,rfl⟩)) ?_;· simp [Region.binds] at k9;simp [execOp,go_sem,h9,k9])
       exact RV.AllDo.nil
      ·intro γ w5 L9 hL hI9 hG9
       have hb8:=hG9
       clear hL hI9 hG9
       simp only [RV.putL,Act.put,List.setIfInBounds_toArray,List.set_cons_zero,List.set_cons_succ]
       have HB7:Hid _:=HB6.out.trans (hb8.mono HB6.out.size)
       clear hb8 L1 L2 p0 p1 p2 q0 q1 q2 s0 s1 s2
       generalize n.dot (m.sub pa) = dd at *
       by_cases hd:dd = 0
       ·subst hd
        have HS2:Hid (((Ls.take (q + 1)).all fun m=>decide (vol pa pb pc m = 0)) = true):=by show _ = _;rw [HS2.out,HA2.out];simp [HVM.out]
        clear HVM HM2
        go_wp2_with (fail)
        go_roundg (Ls.length - (q + 1))
        case measure=>have:=HG2.out;omega
        case rel=>exact ⟨q + 1,by go_num,by omega,rfl,HS2,HB7⟩
       ·have e:R = false:=HM2.out hd
        subst e
        have hd2:(dd != 0) = true:=bne_iff_ne.2 hd
        go_wp2_with (fail)
        go_ret
        exact ⟨rfl,b_step (b_step HB.out HB5.out) HB7.out⟩
     ·have e2:(Ls.all fun m=>decide (vol pa pb pc m = 0)) = true:=by
       have:=HA2.out
       rwa [List.take_of_length_le (by omega:Ls.length <= q)] at this
      have HS1:Hid ((Ls.take (k + 1)).all (fun c=>Ls.all fun m=>decide (vol pa pb c m = 0)) = true):=by show _ = _;rw [HS1.out,HA.out,e2];rfl
      clear e2
      go_wp2_with (fail)
      go_roundg (Ls.length - (k + 1))
      case measure=>have:=HG1.out;omega
      case rel=>exact ⟨k + 1,by go_num,by omega,rfl,HS1,b_step HB5.out HBq.out⟩
   ·have e:R = true:=by
     rw [<- HR.out]
     have:=HA.out
     rwa [List.take_of_length_le (by omega:Ls.length <= k)] at this
    subst e
    go_wp2_with (fail)
    go_ret
    exact ⟨rfl,b_step HB.out HBr.out⟩
end
section
open Go.RowKit Go.Shelf
structure Sh where
 kind:Int
 radius:Int
 half:Pt
 pts:List Pt
def Sh.v (s:Sh) (pv:Value):Value:=.agg #[.int .i64 s.kind,.int .i64 s.radius,.int .i64 s.half.x,.int .i64 s.half.y,.int .i64 s.half.z,pv]
def inR (n a b:Int):Bool:=decide (a <= n/\n <= b)
def formP (s:Sh):Bool:=
 if s.kind = 1 then inR s.radius 1 16384
 else if s.kind = 2 then inR s.radius 1 16384 && halfOk s.half.x
 else if s.kind = 3 then inR s.radius 0 16384 && (halfOk s.half.x && (halfOk s.half.y && halfOk s.half.z))
 else if s.kind = 4 then inR s.radius 0 16384 && mayP s.pts
 else false
def checkP (s:Sh):Int:=if formP s then (if s.kind = 4/\flatP s.pts = true then 51 else 0) else 50
theorem between_is (n a b:Int) (w:World) (t:Bool) (h:inR n a b = t) :
  Calls Tryz.prog 128 #[.int .i64 n,.int .i64 a,.int .i64 b] w fun e w'=>e = .returned (.bool t)/\w' = w:=by
 subst h;exact between_any n a b w
theorem halves1 (n:Int) (w:World):Calls Tryz.prog 132 #[.slice (some ⟨w.heap.size,0,none⟩) 1 1] (w.alloc (.cells #[.int .i64 n] 3)) fun e W=>e = .returned (.bool (halfOk n))/\W = w.alloc (.cells #[.int .i64 n] 3):=by
 have h:=halves_any [n] w.heap.size (w.alloc (.cells #[.int .i64 n] 3)) (fun i hi=>by
  match i,hi with
  | 0,_=>simp) (by simp)
 simpa using h
theorem halves3 (x y z:Int) (w:World):Calls Tryz.prog 132 #[.slice (some ⟨w.heap.size,0,none⟩) 3 3] (w.alloc (.cells #[.int .i64 x,.int .i64 y,.int .i64 z] 3)) fun e W=>e = .returned (.bool (halfOk x && (halfOk y && halfOk z)))/\W = w.alloc (.cells #[.int .i64 x,.int .i64 y,.int .i64 z] 3):=by
 have h:=halves_any [x,y,z] w.heap.size (w.alloc (.cells #[.int .i64 x,.int .i64 y,.int .i64 z] 3)) (fun i hi=>by
  match i,hi with
  | 0,_=>simp
  | 1,_=>simp
  | 2,_=>simp) (by simp)
 simpa using h
theorem formed_any (s:Sh) (pv:Value) (w:World) (hv:Lies w pv s.pts) :
  Calls Tryz.prog 118 #[s.v pv] w fun e W=>e = .returned (.bool (formP s))/\Below w.heap.size w W:=by
 obtain ⟨k,r,⟨hx,hy,hz⟩,L⟩:=s
 have HF:Hid (formP ⟨k,r,⟨hx,hy,hz⟩,L⟩ = if k = 1 then inR r 1 16384 else if k = 2 then inR r 1 16384 && halfOk hx else if k = 3 then inR r 0 16384 && (halfOk hx && (halfOk hy && halfOk hz)) else if k = 4 then inR r 0 16384 && mayP L else false):=rfl
 generalize formP ⟨k,r,⟨hx,hy,hz⟩,L⟩ = F at *
 have hB:Hid (Below w.heap.size w (w.alloc (.cells #[.int .i64 k,.int .i64 r,.int .i64 hx,.int .i64 hy,.int .i64 hz,pv] 37))):=n_after w _
 have HP:Hid _:=pointsMayBe_any pv L (w.alloc (.cells #[.int .i64 k,.int .i64 r,.int .i64 hx,.int .i64 hy,.int .i64 hz,pv] 37)) (hv.below (n_after w _))
 have H1:Hid _:=halves1 hx (w.alloc (.cells #[.int .i64 k,.int .i64 r,.int .i64 hx,.int .i64 hy,.int .i64 hz,pv] 37))
 have H3:Hid _:=halves3 hx hy hz (w.alloc (.cells #[.int .i64 k,.int .i64 r,.int .i64 hx,.int .i64 hy,.int .i64 hz,pv] 37))
 obtain ⟨o,c,rfl,hlc,hcm,_⟩:=hv.form
 dsimp only at hlc hcm HP H1 H3 hB ⊢
 clear hv
 rw [World.size_alloc] at H1 H3
 unfold Sh.v
 dsimp only
 by_cases k1:k = 1
 ·subst k1
  have e:F = inR r 1 16384:=HF.out
  subst e
  generalize hb:inR r 1 16384 = t
  go_enter Tryz.func118,Tryz.ntmps118
  go_wp2_with (go_at_call 128;refine (between_is _ _ _ _ t hb).mono ?_;rintro e w' ⟨rfl,rfl⟩)
  go_ret
  exact ⟨rfl,hB.out⟩
 by_cases k2:k = 2
 ·subst k2
  have e:F = (inR r 1 16384 && halfOk hx):=HF.out
  cases hb:inR r 1 16384 with
  | false =>
   rw [hb] at e
   subst e
   go_enter Tryz.func118,Tryz.ntmps118
   go_wp2_with (go_at_call 128;refine (between_is _ _ _ _ false hb).mono ?_;rintro e w' ⟨rfl,rfl⟩)
   go_ret
   exact ⟨rfl,hB.out⟩
  | true =>
   rw [hb] at e
   subst e
   generalize halfOk hx = t at *
   go_enter Tryz.func118,Tryz.ntmps118
   go_wp2_with (first | (go_at_call 128;refine (between_is _ _ _ _ true hb).mono ?_;rintro e w' ⟨rfl,rfl⟩) | (go_at_call 132;refine Calls.mono H1.out ?_;rintro e w' ⟨rfl,rfl⟩))
   go_ret
   exact ⟨by simp,b_step hB.out (n_after _ _)⟩
 by_cases k3:k = 3
 ·subst k3
  have e:F = (inR r 0 16384 && (halfOk hx && (halfOk hy && halfOk hz))):=HF.out
  cases hb:inR r 0 16384 with
  | false =>
   rw [hb] at e
   subst e
   go_enter Tryz.func118,Tryz.ntmps118
   go_wp2_with (go_at_call 128;refine (between_is _ _ _ _ false hb).mono ?_;rintro e w' ⟨rfl,rfl⟩)
   go_ret
   exact ⟨rfl,hB.out⟩
  | true =>
   rw [hb] at e
   generalize (halfOk hx && (halfOk hy && halfOk hz)) = t at *
   subst e
   go_enter Tryz.func118,Tryz.ntmps118
   go_wp2_with (first | (go_at_call 128;refine (between_is _ _ _ _ true hb).mono ?_;rintro e w' ⟨rfl,rfl⟩) | (go_at_call 132;refine Calls.mono H3.out ?_;rintro e w' ⟨rfl,rfl⟩))
   go_ret
   exact ⟨by simp,b_step hB.out (n_after _ _)⟩
 by_cases k4:k = 4
 ·subst k4
  have e:F = (inR r 0 16384 && mayP L):=HF.out
  cases hb:inR r 0 16384 with
  | false =>
   rw [hb] at e
   subst e
   go_enter Tryz.func118,Tryz.ntmps118
   go_wp2_with (go_at_call 128;refine (between_is _ _ _ _ false hb).mono ?_;rintro e w' ⟨rfl,rfl⟩)
   go_ret
   exact ⟨rfl,hB.out⟩
  | true =>
   rw [hb] at e
   generalize mayP L = t at *
   subst e
   go_enter Tryz.func118,Tryz.ntmps118
   go_wp2_with (first | (go_at_call 128;refine (between_is _ _ _ _ true hb).mono ?_;rintro e w' ⟨rfl,rfl⟩) | (go_at_call 133;refine Calls.mono HP.out ?_;rintro e V ⟨rfl,hb2⟩))
   go_ret
   exact ⟨by simp,b_step hB.out hb2⟩
 ·have e:F = false:=by rw [HF.out,if_neg k1,if_neg k2,if_neg k3,if_neg k4]
  subst e
  go_enter Tryz.func118,Tryz.ntmps118
  go_wp2
  go_ret
  exact ⟨rfl,hB.out⟩
theorem may_parts {L:List Pt} (h:mayP L = true):4 <= L.length/\L.length <= 12/\(∀ p ∈ L,p.inB 65536 = true)/\L.Nodup:=by
 unfold mayP at h
 simp only [Bool.and_eq_true,decide_eq_true_eq,List.all_eq_true] at h
 exact ⟨h.1.1,h.1.2,h.2.1,h.2.2⟩
theorem form_hull {s:Sh} (h:formP s = true) (k:s.kind = 4):mayP s.pts = true:=by
 unfold formP at h
 rw [if_neg (by omega),if_neg (by omega),if_neg (by omega),if_pos k,Bool.and_eq_true] at h
 exact h.2
theorem check_any (s:Sh) (pv:Value) (w:World) (hv:Lies w pv s.pts) :
  Calls Tryz.prog 91 #[s.v pv] w fun e W=>e = .returned (.int .i64 (checkP s))/\Below w.heap.size w W:=by
 have hB:Hid (Below w.heap.size w (w.alloc (.cells #[.int .i64 s.kind,.int .i64 s.radius,.int .i64 s.half.x,.int .i64 s.half.y,.int .i64 s.half.z,pv] 37))):=n_after w _
 have HF:Hid _:=formed_any s pv (w.alloc (.cells #[.int .i64 s.kind,.int .i64 s.radius,.int .i64 s.half.x,.int .i64 s.half.y,.int .i64 s.half.z,pv] 37)) (hv.below hB.out)
 have HC:Hid (checkP s = if formP s then (if s.kind = 4/\flatP s.pts = true then 51 else 0) else 50):=rfl
 have HM:Hid (formP s = true->s.kind = 4->mayP s.pts = true):=fun a b=>form_hull a b
 generalize checkP s = C at *
 have HV:Hid _:=hv
 obtain ⟨o,c,rfl,hlc,hcm,_⟩:=hv.form
 clear hv
 generalize formP s = F at *
 obtain ⟨k,r,⟨hx,hy,hz⟩,L⟩:=s
 unfold Sh.v at *
 dsimp only at *
 cases F with
 | false =>
  have e:C = 50:=HC.out
  subst e
  go_enter Tryz.func91,Tryz.ntmps91
  go_wp2_with (go_at_call 118;refine Calls.mono HF.out ?_;rintro e V ⟨rfl,hb⟩)
  go_ret
  exact ⟨rfl,b_step hB.out hb⟩
 | true =>
  have c0:(w.alloc (.cells #[.int .i64 k,.int .i64 r,.int .i64 hx,.int .i64 hy,.int .i64 hz,.slice o L.length c] 37)).cell? ⟨w.heap.size,0,none⟩ = some (.int .i64 k):=by simp
  have c5:(w.alloc (.cells #[.int .i64 k,.int .i64 r,.int .i64 hx,.int .i64 hy,.int .i64 hz,.slice o L.length c] 37)).cell? ⟨w.heap.size,5,none⟩ = some (.slice o L.length c):=by simp
  by_cases k4:k = 4
  ·subst k4
   obtain ⟨m1,m2,m3,m4⟩:=may_parts (HM.out rfl rfl)
   have m3:Hid _:=m3
   have HC:Hid (C = if flatP L = true then 51 else 0):=by show _ = _;rw [HC.out];simp
   go_enter Tryz.func91,Tryz.ntmps91
   go_wp2_with (fail)
   refine Calls.mono HF.out ?_
   clear HF
   rintro e V ⟨rfl,hb⟩
   have d0:=c_after hb c0
   have d5:=c_after hb c5
   have hB2:Hid _:=b_step hB.out hb
   clear hb c0 c5
   go_wp2_with (fail)
   refine Calls.mono (flat_any _ L V (HV.out.below hB2.out) m1 m2 m3.out) ?_
   rintro e V2 ⟨rfl,hb⟩
   clear d0 d5
   generalize flatP L = fl at *
   cases fl with
   | true =>
    have e:C = 51:=HC.out
    subst e
    go_wp2_with (fail)
    go_ret
    exact ⟨rfl,b_step hB2.out hb⟩
   | false =>
    have e:C = 0:=HC.out
    subst e
    go_wp2_with (fail)
    go_ret
    exact ⟨rfl,b_step hB2.out hb⟩
  ·have e:C = 0:=by rw [HC.out,if_pos rfl,if_neg (fun h=>k4 h.1)]
   subst e
   go_enter Tryz.func91,Tryz.ntmps91
   go_wp2_with (fail)
   refine Calls.mono HF.out ?_
   clear HF
   rintro e V ⟨rfl,hb⟩
   have d0:=c_after hb c0
   have hB2:Hid _:=b_step hB.out hb
   clear hb c0 c5
   go_wp2_with (fail)
   go_ret
   exact ⟨rfl,hB2.out⟩
end
end Go.Proofs.YtlhhmiicpddjoaaGreat
