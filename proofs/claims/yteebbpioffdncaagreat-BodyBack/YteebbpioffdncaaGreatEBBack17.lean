/- Package body: Check. -/
import Derived.Test.YteebbpioffdncaaGreatEBBack16
import Derived.Test.YteebbpioffdncaaGreatEBBack15
import Derived.Test.YteebbpioffdncaaGreatEBBack12
import Derived.Test.YteebbpioffdncaaGreatEBBack0
import Derived.Test.YteebbpioffdncaaGreatEBBack2
set_option maxHeartbeats 8000000
set_option maxRecDepth 100000
set_option linter.unusedVariables false
namespace Go.Proofs.YteebbpioffdncaaGreat
open Go.Calls renaming mono -> JA
open Go.World renaming block_lt_of_cell? -> JB
open Go.Region renaming binds -> JC
open Go renaming execOp -> JD
open Tryz
open Go.Value renaming int -> J
open Go.IntKind renaming i64 -> Y
section
open Go.RowKit Go.Shelf Fx
structure Rs where
 sh:Sh
 g:Int
 ma:Int
 fr:Int
 fa:Bool
 qu:Int
 al:Bool
 ou:Bool
def Rs.l (r:Rs) (pv:Value):List Value:=[J Y r.sh.kind,J Y r.sh.radius,J Y r.sh.half.x,J Y r.sh.half.y,J Y r.sh.half.z,pv,J Y r.g,J Y r.ma,J Y r.fr,.bool r.fa,J Y r.qu,.bool r.al,.bool r.ou]
theorem Rs.rest (r:Rs) {pv:Value} (h:pv.oneCell' = true):RestP (r.l pv) pv:=by
 refine ⟨⟨rfl,fun v hv=>?_⟩,rfl⟩
 simp only [Rs.l,List.mem_cons,List.not_mem_nil,or_false] at hv
 rcases hv with rfl | rfl | rfl | rfl | rfl | rfl | rfl | rfl | rfl | rfl | rfl | rfl | rfl
 all_goals first | rfl | exact h
theorem Rs.set (r:Rs) (pv u:Value):(r.l pv).set 5 u = r.l u:=rfl
theorem Jht (b:Bd) (r:Rs) (pv:Value) (W:World) (hv:Lies W pv r.sh.pts) :
  Calls Tryz.prog 10 #[.agg (b.L (r.l pv)).toArray] W fun e W'=>e = .returned (J Y (Joz b r.fr r.sh))/\Hid (Below W.heap.size W W'):=by
 have HX:Hid (Below _ _ _):=Jb W (.cells (b.L (r.l pv)).toArray 39)
 have CX:Hid (CW _ _ _):=CW.new W (b.L (r.l pv)) 39
 have hz:Hid ((Tryz.prog.info? 39).map (·.size) = some (b.L (r.l pv)).length):=J2 (r.rest (by obtain ⟨o,c,rfl,_⟩:=hv.form;rfl)).rest b
 have HRG:Hid _:=CX.out.range
 have HF:Hid _:=fun w=>Jkh b (r.l pv) r.fr rfl w
 have HV:Hid (Lies _ _ _):=hv.below HX.out
 have HM:Hid _:=fun w=>Jpm b w
 have HS:Hid _:=fun w h=>Jo4 r.sh pv w h
 unfold Sh.v at HS
 unfold Joz
 obtain ⟨o,c,hpv,_⟩:=hv.form
 generalize Jke b r.fr = ff at *
 generalize Js3 b = mm at *
 generalize Jaj r.sh = cc at *
 clear hv
 cases ff with
 | false =>
  generalize b.L (r.l pv) = cs at *
  go_enter func10,ntmps10
  go_wp2_with (refine wpList_load_mid rfl 39 _ rfl W.heap.size 0 rfl _ _ HRG.out underlying39 rfl hz.out ?_)
  refine JA (HF.out _) ?_
  rintro e V1 ⟨rfl,hb⟩
  go_wp2_with (fail)
  go_ret
  exact ⟨rfl,Jf HX.out hb.out⟩
 | true =>
  obtain ⟨cs,hcs⟩:∃ cs,cs = b.L (r.l pv):=⟨_,rfl⟩
  rw [<- hcs] at HX CX hz HRG HF HV ⊢
  have HCS:Hid _:=hcs
  clear hcs
  go_enter func10,ntmps10
  go_wp2_with (refine wpList_load_mid rfl 39 _ rfl W.heap.size 0 rfl _ _ HRG.out underlying39 rfl hz.out ?_)
  refine JA (HF.out _) ?_
  rintro e V1 ⟨rfl,hb⟩
  have HX:Hid (Below _ _ _):=Jf HX.out hb.out
  have CX:Hid (CW _ _ _):=CX.out.step hb.out
  have HV:Hid (Lies _ _ _):=HV.out.below hb.out
  rw [HCS.out] at CX
  have k18:=(CX.out 18 _ rfl).1
  have k19:=(CX.out 19 _ rfl).1
  have k20:=(CX.out 20 _ rfl).1
  have k21:=(CX.out 21 _ rfl).1
  have k22:=(CX.out 22 _ rfl).1
  have k23:=(CX.out 23 _ rfl).1
  rw [hpv] at k23
  have HS1:Hid _:=HS.out _ HV.out
  rw [hpv] at HS1
  clear hb HRG HF HS HV
  go_wp2_with (fail)
  refine JA HS1.out ?_
  rintro e V2 ⟨rfl,hb⟩
  have HX:Hid (Below _ _ _):=Jf HX.out hb
  have CX:Hid (CW _ _ _):=CX.out.step hb
  clear hb HS1 k18 k19 k20 k21 k22 k23
  by_cases hc:cc = 0
  ·subst hc
   have k0:=(CX.out 0 _ rfl).1
   have ke:=(CX.out 14 _ rfl).1
   have kf:=(CX.out 15 _ rfl).1
   have kg:=(CX.out 16 _ rfl).1
   have kh:=(CX.out 17 _ rfl).1
   by_cases hk:b.k = 2
   ·rw [hk] at k0
    go_wp2_with (fail)
    refine JA (HM.out _) ?_
    rintro e V3 ⟨rfl,hb⟩
    clear k0 ke kf kg kh
    cases mm with
    | false =>
     go_wp2_with (fail)
     go_ret
     exact ⟨by simp,Jf HX.out hb.out⟩
    | true =>
     go_wp2_with (fail)
     go_ret
     exact ⟨by simp,Jf HX.out hb.out⟩
   ·have hk2:(b.k == 2) = false:=by simpa using hk
    go_wp2_with (fail)
    go_ret
    exact ⟨by simp,HX⟩
  ·have hc2:(cc == 0) = false:=by simpa using hc
   go_wp2_with (fail)
   go_ret
   exact ⟨by simp,HX⟩
end
section
open Go.RowKit Go.Shelf Fx
def eb0:Bd:=⟨2,⟨0,0,0⟩,⟨4294967296,0,0,0⟩,⟨0,0,0⟩,⟨0,0,0⟩,8589934592,⟨4294967296,4294967296,4294967296⟩⟩
def er0:Rs:=⟨⟨1,9,⟨0,0,0⟩,[]⟩,0,0,0,false,0,false,false⟩
def eb1:Bd:=eb0.wp ⟨17179869184,0,0⟩
def ebz:Bd:=⟨0,⟨0,0,0⟩,⟨0,0,0,0⟩,⟨0,0,0⟩,⟨0,0,0⟩,0,⟨0,0,0⟩⟩
def erz:Rs:=⟨⟨0,0,⟨0,0,0⟩,[]⟩,0,0,0,false,0,false,false⟩
theorem Jkw:Jae [4294967296,0,0,0] = some 4294967296:=by
 have e:((isq (Jad [4294967296,0,0,0] [4294967296,0,0,0]).toNat:Nat):Int) = 4294967296:=(isq_of (X:=Jad [4294967296,0,0,0] [4294967296,0,0,0]) (by decide) (by decide) (by decide)).symm
 unfold Jae
 rw [if_neg (by decide),if_neg (by decide),e]
 decide
theorem Jsj:ifB eb0 (Jem eb0 ⟨0,0,0⟩ ⟨17179869184,0,0⟩) = eb1:=by kernel_rfl
theorem Jqm:Jbq eb0.k (Jpi eb0 ⟨0,0,0⟩ ⟨17179869184,0,0⟩) = false:=by kernel_rfl
theorem Jre:if2 eb1.k (Jbz eb1) = ⟨8589934592,0,0⟩:=by kernel_rfl
theorem Jo3:Jbq eb1.k (Jed eb1) = false:=by kernel_rfl
theorem Jrw:Ja3 eb1 4294967296 = ⟨0,0,0⟩:=by kernel_rfl
theorem Jrk:(ifB eb1 (goD eb1 4294967296)).s = ⟨8589934592,0,0⟩:=by kernel_rfl
theorem Jru:Jng ⟨4294967296,0,0,0⟩ ⟨0,0,0⟩ = false:=by
 have t:Jn 4294967296 0 0 0 4294967296 0 0 0 = false:=by kernel_rfl
 have t0:Jba 4294967296 0 0 0 4294967296 0 0 0 = 4294967296:=by kernel_rfl
 have t1:Ja9 4294967296 0 0 0 4294967296 0 0 0 = 0:=by kernel_rfl
 have t2:Jbb 4294967296 0 0 0 4294967296 0 0 0 = 0:=by kernel_rfl
 have t3:Jbc 4294967296 0 0 0 4294967296 0 0 0 = 0:=by kernel_rfl
 unfold Jng Jdy
 dsimp only
 rw [t,t0,t1,t2,t3]
 simp only [cond_false]
 unfold Jw
 rw [Jkw]
 rfl
theorem Jtc:Jbq eb1.k (goB eb1 4294967296) = false:=by
 have h1:Jmw eb1 4294967296 = false:=by kernel_rfl
 have h2:Jef eb1.s (Jbh eb1 4294967296) = false:=by kernel_rfl
 have h3:eb1.q = ⟨4294967296,0,0,0⟩:=rfl
 unfold Jbq goB
 rw [if_pos (show eb1.k = 2 from rfl),h1,h2,Jrw,h3,Jru]
 rfl
theorem Jp2:Joz eb0 er0.fr er0.sh = 0:=by
 have h:Jpg eb0.q = true:=by
  unfold Jpg
  have:Jae [eb0.q.w,eb0.q.x,eb0.q.y,eb0.q.z] = some 4294967296:=Jkw
  rw [this];rfl
 have hf:Jke eb0 er0.fr = true:=by
  unfold Jke
  rw [h];rfl
 unfold Joz
 rw [hf];rfl
theorem Jos:Joz ebz erz.fr erz.sh = 1:=by
 have hf:Jke ebz erz.fr = false:=by unfold Jke;rfl
 unfold Joz
 rw [hf];rfl
end
section
open Go.RowKit Go.Shelf Fx
theorem Je9 (w:World):Lies w (.slice none 0 0) []:=Lies.of_row (base:=0) (World.ownsRow_nil _ _ _ _)
theorem Lies.any_nil {W W':World} {v:Value} (h:Lies W v []):Lies W' v []:=by
 obtain ⟨o,c,e,h1,h2,_⟩:=h.form
 exact ⟨o,c,e,h1,h2,fun i hi=>by simp at hi⟩
theorem Jq3:RestP (er0.l (.slice none 0 0)) (.slice none 0 0):=er0.rest rfl
theorem Jc1 (W:World) (us:List Value) (hu:us.length = 31) :
  CW ((W.alloc (.cells #[J Y 0,J Y 0,J Y 0,J Y 0,J Y 0,J Y 0,J Y 0,J Y 0,J Y 0,J Y 0,J Y 0,J Y 0,J Y 0,J Y 0,J Y 0,J Y 0,J Y 0,J Y 0,J Y 0,J Y 0,J Y 0,J Y 0,J Y 0,.slice none 0 0,J Y 0,J Y 0,J Y 0,.bool false,J Y 0,.bool false,.bool false] 39)).setCells W.heap.size 0 us) W.heap.size us/\Below W.heap.size W ((W.alloc (.cells #[J Y 0,J Y 0,J Y 0,J Y 0,J Y 0,J Y 0,J Y 0,J Y 0,J Y 0,J Y 0,J Y 0,J Y 0,J Y 0,J Y 0,J Y 0,J Y 0,J Y 0,J Y 0,J Y 0,J Y 0,J Y 0,J Y 0,J Y 0,.slice none 0 0,J Y 0,J Y 0,J Y 0,.bool false,J Y 0,.bool false,.bool false] 39)).setCells W.heap.size 0 us)/\((W.alloc (.cells #[J Y 0,J Y 0,J Y 0,J Y 0,J Y 0,J Y 0,J Y 0,J Y 0,J Y 0,J Y 0,J Y 0,J Y 0,J Y 0,J Y 0,J Y 0,J Y 0,J Y 0,J Y 0,J Y 0,J Y 0,J Y 0,J Y 0,J Y 0,.slice none 0 0,J Y 0,J Y 0,J Y 0,.bool false,J Y 0,.bool false,.bool false] 39)).setCells W.heap.size 0 us).heap.size = W.heap.size + 1/\World.there (W.alloc (.cells #[J Y 0,J Y 0,J Y 0,J Y 0,J Y 0,J Y 0,J Y 0,J Y 0,J Y 0,J Y 0,J Y 0,J Y 0,J Y 0,J Y 0,J Y 0,J Y 0,J Y 0,J Y 0,J Y 0,J Y 0,J Y 0,J Y 0,J Y 0,.slice none 0 0,J Y 0,J Y 0,J Y 0,.bool false,J Y 0,.bool false,.bool false] 39)) W.heap.size 0 us.toArray.size:=by
 have C:=CW.new W [J Y 0,J Y 0,J Y 0,J Y 0,J Y 0,J Y 0,J Y 0,J Y 0,J Y 0,J Y 0,J Y 0,J Y 0,J Y 0,J Y 0,J Y 0,J Y 0,J Y 0,J Y 0,J Y 0,J Y 0,J Y 0,J Y 0,J Y 0,.slice none 0 0,J Y 0,J Y 0,J Y 0,.bool false,J Y 0,.bool false,.bool false] 39
 refine ⟨C.sets (by rw [hu];rfl),(Jb W _).trans (Jbl (Nat.le_refl _) _ _ _),by rw [Jeu,World.size_alloc],?_⟩
 have e:us.toArray.size = 31:=by rw [List.size_toArray,hu]
 rw [e]
 exact C.there
theorem Jlh (W:World):Calls Tryz.prog 14 #[] W fun e W'=>e = .returned (.bool true)/\Hid (Below W.heap.size W W'):=by
 have hr0:=Jq3
 have hz0:Hid _:=J2 hr0.rest eb0
 have hy0:Hid ((Tryz.prog.info? 39).map (·.size) = some (#[J Y 2,J Y 0,J Y 0,J Y 0,J Y 4294967296,J Y 0,J Y 0,J Y 0,J Y 0,J Y 0,J Y 0,J Y 0,J Y 0,J Y 0,J Y 8589934592,J Y 4294967296,J Y 4294967296,J Y 4294967296,J Y 1,J Y 9,J Y 0,J Y 0,J Y 0,.slice none 0 0,J Y 0,J Y 0,J Y 0,.bool false,J Y 0,.bool false,.bool false]:Array Value).size):=Jaa hr0.rest eb0
 have h10:Hid ((#[J Y 2,J Y 0,J Y 0,J Y 0,J Y 4294967296,J Y 0,J Y 0,J Y 0,J Y 0,J Y 0,J Y 0,J Y 0,J Y 0,J Y 0,J Y 8589934592,J Y 4294967296,J Y 4294967296,J Y 4294967296,J Y 1,J Y 9,J Y 0,J Y 0,J Y 0,.slice none 0 0,J Y 0,J Y 0,J Y 0,.bool false,J Y 0,.bool false,.bool false]:Array Value).all (·.oneCell') = true):=hr0.rest.each eb0
 obtain ⟨X0,hX0⟩:∃ X,X = (W.alloc (.cells #[J Y 0,J Y 0,J Y 0,J Y 0,J Y 0,J Y 0,J Y 0,J Y 0,J Y 0,J Y 0,J Y 0,J Y 0,J Y 0,J Y 0,J Y 0,J Y 0,J Y 0,J Y 0,J Y 0,J Y 0,J Y 0,J Y 0,J Y 0,.slice none 0 0,J Y 0,J Y 0,J Y 0,.bool false,J Y 0,.bool false,.bool false] 39)).setCells W.heap.size 0 ([J Y 2,J Y 0,J Y 0,J Y 0,J Y 4294967296,J Y 0,J Y 0,J Y 0,J Y 0,J Y 0,J Y 0,J Y 0,J Y 0,J Y 0,J Y 8589934592,J Y 4294967296,J Y 4294967296,J Y 4294967296,J Y 1,J Y 9,J Y 0,J Y 0,J Y 0,.slice none 0 0,J Y 0,J Y 0,J Y 0,.bool false,J Y 0,.bool false,.bool false]):=⟨_,rfl⟩
 obtain ⟨NX0,BX0,SX0,TX0⟩:=Jc1 W ([J Y 2,J Y 0,J Y 0,J Y 0,J Y 4294967296,J Y 0,J Y 0,J Y 0,J Y 0,J Y 0,J Y 0,J Y 0,J Y 0,J Y 0,J Y 8589934592,J Y 4294967296,J Y 4294967296,J Y 4294967296,J Y 1,J Y 9,J Y 0,J Y 0,J Y 0,.slice none 0 0,J Y 0,J Y 0,J Y 0,.bool false,J Y 0,.bool false,.bool false]) rfl
 rw [<- hX0] at NX0 BX0 SX0
 have HTX0:Hid (World.there _ _ _ _):=TX0
 clear TX0
 obtain ⟨V,hV⟩:∃ V,V = X0.alloc (.cells #[.bool false] 47):=⟨_,rfl⟩
 have hbV:Below X0.heap.size X0 V:=by rw [hV];exact Jb _ _
 have Cw:CW V X0.heap.size [.bool false]:=by rw [hV];exact CW.new _ [.bool false] 47
 have Cb:CW V W.heap.size (eb0.L (er0.l (.slice none 0 0))):=NX0.step hbV
 have HB:Hid (Below _ _ _):=Jf BX0 hbV
 clear NX0 BX0
 go_enter func14,ntmps14
 go_upto_region 2 with (refine wpList_store_mid rfl 39 _ _ rfl W.heap.size 0 _ rfl rfl HTX0.out hy0.out h10.out ?_)
 rw [<- hX0]
 obtain ⟨pb,hpb⟩:∃ p,p = W.heap.size:=⟨_,rfl⟩
 rw [<- hpb] at Cb SX0 ⊢
 have s1:X0.heap.size <= pb + 1:=by omega
 have s2:pb + 1 <= X0.heap.size:=by omega
 have hWb:W.heap.size <= pb:=by omega
 clear hX0 HTX0 hy0 h10 hpb SX0
 go_upto_region 3 with fail
 rw [<- hV]
 obtain ⟨pw,hpw⟩:∃ p,p = X0.heap.size:=⟨_,rfl⟩
 rw [<- hpw] at Cw ⊢
 have nb:pb ≠ pw:=by omega
 have hWw:W.heap.size <= pw:=by omega
 clear hV hpw hbV s1 s2
 have hc:=(Cw 0 _ rfl).1
 have hf:=(Cw 0 _ rfl).2
 have HRG:Hid (World.rangeAt V pb 0 (eb0.L (er0.l (.slice none 0 0)))):=Cb.range
 have HC1:Hid _:=Jha pw 0 false eb0 (er0.l (.slice none 0 0)) (.slice none 0 0) [] ⟨0,0,0⟩ ⟨17179869184,0,0⟩ hr0 V hc hf (Je9 V) (by simp)
 rw [Jsj,Jqm] at HC1
 have Cb0:Hid (CW _ _ _):=Cb
 generalize hcs0:eb0.L (er0.l (.slice none 0 0)) = cs0 at *
 have HCS0:Hid _:=hcs0
 clear hcs0
 go_wp2_with (refine wpList_load_mid rfl 39 _ rfl pb 0 rfl _ _ HRG.out underlying39 rfl hz0.out ?_)
 refine JA HC1.out ?_
 rintro e V1 ⟨u,rfl,A,HO⟩
 have hR1:=hr0.set (Jdf HO.out)
 have hA:=A.out
 rw [Bool.or_false] at hA
 have hz1:Hid _:=J2 hR1.rest eb1
 have hy1:Hid _:=Jaa hR1.rest eb1
 have h11:Hid _:=hR1.rest.each eb1
 obtain ⟨X1,hX1⟩:∃ X,X = (V1.alloc (.cells #[J Y 0,J Y 0,J Y 0,J Y 0,J Y 0,J Y 0,J Y 0,J Y 0,J Y 0,J Y 0,J Y 0,J Y 0,J Y 0,J Y 0,J Y 0,J Y 0,J Y 0,J Y 0,J Y 0,J Y 0,J Y 0,J Y 0,J Y 0,.slice none 0 0,J Y 0,J Y 0,J Y 0,.bool false,J Y 0,.bool false,.bool false] 39)).setCells V1.heap.size 0 (eb1.L ((er0.l (.slice none 0 0)).set 5 u)):=⟨_,rfl⟩
 obtain ⟨NX1,BX1,SX1,TX1⟩:=Jc1 V1 (eb1.L ((er0.l (.slice none 0 0)).set 5 u)) (hR1.rest.all _)
 rw [<- hX1] at NX1 BX1 SX1
 have HTX1:Hid (World.there _ _ _ _):=TX1
 clear TX1
 have Cb1:Hid (CW _ _ _):=(Cb0.out.after hA nb).step BX1
 have hc1:=Ja BX1 hA.cell
 have hf1:=Jt BX1 hA.cell hA.frozen
 have HB1:Hid (Below _ _ _):=Jf (hA.below _ _ HB.out hWw HB.out.size) BX1
 have hL1:Lies X1 u ([]:List Pt):=(Lies.of_row HO.out).below BX1
 obtain ⟨p1,hp1⟩:∃ p,p = V1.heap.size:=⟨_,rfl⟩
 have n1:p1 ≠ pw:=by have:=JB _ _ hA.cell;rw [hp1];exact Nat.ne_of_gt this
 have nb1:p1 ≠ pb:=by have h9:=(Cb0.out.after hA nb);have h8:=JB _ _ (h9 0 _ (by rw [<- HCS0.out];rfl)).1;rw [hp1];exact Nat.ne_of_gt h8
 clear HC1 A hA HO Cw Cb HB Cb0 HRG hc hf
 generalize hcs1:eb1.L ((er0.l (.slice none 0 0)).set 5 u) = cs1 at *
 have HCS1:Hid _:=hcs1
 clear hcs1
 go_upto_region 4 with (refine wpList_store_mid rfl 39 _ _ rfl V1.heap.size 0 _ rfl rfl HTX1.out hy1.out h11.out ?_)
 rw [<- hX1,<- hp1]
 rw [<- hp1] at NX1
 clear hX1 hp1 HTX1 SX1 BX1 hy1 h11
 have HRG1:Hid (World.rangeAt X1 p1 0 cs1):=NX1.range
 have HC2:Hid _:=Jix pw 0 false eb1 ((er0.l (.slice none 0 0)).set 5 u) hR1.rest X1 hc1 hf1
 rw [Jre,Jo3,HCS1.out] at HC2
 go_wp2_with (refine wpList_load_mid rfl 39 _ rfl p1 0 rfl _ _ HRG1.out underlying39 rfl hz1.out ?_)
 refine JA HC2.out ?_
 rintro e V2 ⟨rfl,A⟩
 have hA:=A.out
 rw [Bool.or_false] at hA
 go_upto_region 5 with fail
 obtain ⟨X2,hX2⟩:∃ X,X = V2.alloc (.cells #[J Y 8589934592,J Y 0,J Y 0] 27):=⟨_,rfl⟩
 rw [<- hX2]
 have hb2:Below V2.heap.size V2 X2:=by rw [hX2];exact Jb _ _
 have Cv:CW X2 V2.heap.size [J Y 8589934592,J Y 0,J Y 0]:=by rw [hX2];exact CW.new V2 [J Y 8589934592,J Y 0,J Y 0] 27
 obtain ⟨p2,hp2⟩:∃ p,p = V2.heap.size:=⟨_,rfl⟩
 rw [<- hp2] at Cv ⊢
 have n2:p2 ≠ pw:=by have:=JB _ _ hA.cell;rw [hp2];exact Nat.ne_of_gt this
 have Cb2:Hid (CW _ _ _):=(Cb1.out.after hA nb).step hb2
 have C12:=(NX1.after hA n1).step hb2
 have hc2:=Ja hb2 hA.cell
 have hf2:=Jt hb2 hA.cell hA.frozen
 have HB2:Hid (Below _ _ _):=Jf (hA.below _ _ HB1.out hWw HB1.out.size) hb2
 have hL2:Lies X2 u ([]:List Pt):=hL1.any_nil
 clear hX2 hp2 hb2 A hA HC2 HB1 hL1 NX1 Cb1 HRG1 hc1 hf1
 have HRG2:Hid (World.rangeAt X2 p1 0 cs1):=C12.range
 have HC3:Hid _:=Jta pw 0 false eb1 ((er0.l (.slice none 0 0)).set 5 u) u [] 4294967296 (by decide) hR1 X2 hc2 hf2 hL2 (by simp)
 rw [Jtc,HCS1.out] at HC3
 go_wp2_with (refine wpList_load_mid rfl 39 _ rfl p1 0 rfl _ _ HRG2.out underlying39 rfl hz1.out ?_)
 refine JA HC3.out ?_
 rintro e V3 ⟨u2,rfl,A,HO⟩
 have hR3:=hR1.set (Jdf HO.out)
 have hA:=A.out
 rw [Bool.or_false] at hA
 have hy3:Hid _:=Jaa hR3.rest (ifB eb1 (goD eb1 4294967296))
 have h13:Hid _:=hR3.rest.each (ifB eb1 (goD eb1 4294967296))
 obtain ⟨X3,hX3⟩:∃ X,X = (V3.alloc (.cells #[J Y 0,J Y 0,J Y 0,J Y 0,J Y 0,J Y 0,J Y 0,J Y 0,J Y 0,J Y 0,J Y 0,J Y 0,J Y 0,J Y 0,J Y 0,J Y 0,J Y 0,J Y 0,J Y 0,J Y 0,J Y 0,J Y 0,J Y 0,.slice none 0 0,J Y 0,J Y 0,J Y 0,.bool false,J Y 0,.bool false,.bool false] 39)).setCells V3.heap.size 0 ((ifB eb1 (goD eb1 4294967296)).L (((er0.l (.slice none 0 0)).set 5 u).set 5 u2)):=⟨_,rfl⟩
 obtain ⟨NX3,BX3,SX3,TX3⟩:=Jc1 V3 ((ifB eb1 (goD eb1 4294967296)).L (((er0.l (.slice none 0 0)).set 5 u).set 5 u2)) (hR3.rest.all _)
 rw [<- hX3] at NX3 BX3 SX3
 have HTX3:Hid (World.there _ _ _ _):=TX3
 clear TX3
 have Cb3:=(Cb2.out.after hA nb).step BX3
 have Cv3:=(Cv.after hA n2).step BX3
 have hc3:=Ja BX3 hA.cell
 have HB3:Hid (Below _ _ _):=Jf (hA.below _ _ HB2.out hWw HB2.out.size) BX3
 have d1:=(NX3 1 _ rfl).1
 have d2:=(NX3 2 _ rfl).1
 have d3:=(NX3 3 _ rfl).1
 have g1:(ifB eb1 (goD eb1 4294967296)).s.x = 8589934592:=by rw [Jrk]
 have g2:(ifB eb1 (goD eb1 4294967296)).s.y = 0:=by rw [Jrk]
 have g3:(ifB eb1 (goD eb1 4294967296)).s.z = 0:=by rw [Jrk]
 rw [g1] at d1
 rw [g2] at d2
 rw [g3] at d3
 obtain ⟨p3,hp3⟩:∃ p,p = V3.heap.size:=⟨_,rfl⟩
 clear g1 g2 g3 HC3 A hA HO Cv Cb2 HB2 HRG2 hc2 hf2 C12 hL2 NX3
 generalize (ifB eb1 (goD eb1 4294967296)).L (((er0.l (.slice none 0 0)).set 5 u).set 5 u2) = cs3 at *
 go_upto_region 6 with (refine wpList_store_mid rfl 39 _ _ rfl V3.heap.size 0 _ rfl rfl HTX3.out hy3.out h13.out ?_)
 rw [<- hX3,<- hp3]
 rw [<- hp3] at d1 d2 d3
 clear hX3 hp3 HTX3 SX3 BX3 hy3 h13
 have HRG3:Hid (World.rangeAt X3 pb 0 cs0):=Cb3.range
 have HK1:Hid _:=Jht eb0 er0 (.slice none 0 0) X3 (Je9 X3)
 rw [Jp2,HCS0.out] at HK1
 go_wp2_with (refine wpList_load_mid rfl 39 _ rfl pb 0 rfl _ _ HRG3.out underlying39 rfl hz0.out ?_)
 refine JA HK1.out ?_
 rintro e V4 ⟨rfl,hb⟩
 have hb4:=hb.out
 have d1:=Ja hb4 d1
 have d2:=Ja hb4 d2
 have d3:=Ja hb4 d3
 have v0:=Ja hb4 (Cv3 0 _ rfl).1
 have v1:=Ja hb4 (Cv3 1 _ rfl).1
 have v2:=Ja hb4 (Cv3 2 _ rfl).1
 have hc4:=Ja hb4 hc3
 have HB4:Hid (Below _ _ _):=Jf HB3.out hb4
 have HK2:Hid (Calls Tryz.prog 10 #[.agg #[J Y 0,J Y 0,J Y 0,J Y 0,J Y 0,J Y 0,J Y 0,J Y 0,J Y 0,J Y 0,J Y 0,J Y 0,J Y 0,J Y 0,J Y 0,J Y 0,J Y 0,J Y 0,J Y 0,J Y 0,J Y 0,J Y 0,J Y 0,.slice none 0 0,J Y 0,J Y 0,J Y 0,.bool false,J Y 0,.bool false,.bool false]] V4 fun e W'=>e = .returned (J Y 1)/\Hid (Below V4.heap.size V4 W')):=by
  have h9:=Jht ebz erz (.slice none 0 0) V4 (Je9 V4)
  rw [Jos] at h9
  exact h9
 clear HK1 HRG3 hb hb4 Cv3 Cb3 hc3 HB3
 go_wp2_with (fail)
 refine JA HK2.out ?_
 rintro e V5 ⟨rfl,hb⟩
 have HB5:Hid (Below _ _ _):=Jf HB4.out hb.out
 clear HK2 hb d1 d2 d3 v0 v1 v2 hc4
 go_wp2_with (fail)
 go_ret
 exact ⟨rfl,HB5⟩
end
section
open Go.RowKit Go.Shelf
theorem Je8 (c n:Int) (w:World) (hc:-9223372036854775808 <= c/\c <= 9223372036854775807) (hn:0 < n) (hn':n <= 9223372036854775807) :
  Calls Tryz.prog 23 #[J Y c,J Y n] w fun e w'=>e = .returned (J Y (Jbg c n))/\w' = w:=by
 unfold Jbg
 by_cases h:c < 0
 ·have hb:0 <= -(c + 1):=by omega
  have hb':-(c + 1) <= 9223372036854775807:=by omega
  have hz:(n == 0) = false:=beq_eq_false_iff_ne.2 (by omega)
  rw [if_pos h]
  go_enter func23,ntmps23
  go_wp2
  go_ret
  have e:(c + 1).tmod n = -(-(c + 1) % n):=by
   rw [<- Int.tmod_eq_emod_of_nonneg hb,Int.neg_tmod,Int.neg_neg]
  exact ⟨by rw [e,Int.neg_neg];rfl,rfl⟩
 ·have hz:(n == 0) = false:=beq_eq_false_iff_ne.2 (by omega)
  rw [if_neg h]
  go_enter func23,ntmps23
  go_wp2
  go_ret
  exact ⟨rfl,rfl⟩
theorem Jfd (n m:Int) (w:World) (hn:-9223372036854775808 <= n/\n <= 9223372036854775807) (hm:0 <= m/\m <= 4611686018427387903) :
  Calls Tryz.prog 35 #[J Y n,J Y m] w fun e w'=>e = .returned (J Y (Jaf n m))/\w' = w:=by
 have HP:Hid _:=fun w'=>Je8 n (2 * m + 1) w' hn (by omega) (by omega)
 have h1:=Jbt n (n:=2 * m + 1) (by omega)
 have h2:=Jbs n (n:=2 * m + 1) (by omega)
 unfold Jaf
 generalize Jbg n (2 * m + 1) = pz at *
 have e1:IntKind.i64.wrap (2 * m) = 2 * m:=by rw [IntKind.wrap_i64];omega
 have e2:IntKind.i64.wrap (2 * m + 1) = 2 * m + 1:=by rw [IntKind.wrap_i64];omega
 have e3:IntKind.i64.wrap (pz - m) = pz - m:=by rw [IntKind.wrap_i64];omega
 go_enter func35,ntmps35
 go_wp2_with (fail)
 refine JA (HP.out _) ?_
 rintro e w' ⟨rfl,rfl⟩
 go_wp2_with (fail)
 go_ret
 exact ⟨rfl,rfl⟩
theorem Jf2 {P:Program} {F:Nat} {xs:Array Value} {w:World} {v:Value} (h:Calls P F xs w fun e w'=>e = .returned v/\w' = w):Calls P F xs w fun e W=>e = .returned v/\Below w.heap.size w W:=
 h.mono (by rintro e W ⟨h1,rfl⟩;exact ⟨h1,Below.refl _ _⟩)
theorem Jeo (x y z m:Int) (W:World) (hx:-9223372036854775808 <= x/\x <= 9223372036854775807) (hy:-9223372036854775808 <= y/\y <= 9223372036854775807) (hz:-9223372036854775808 <= z/\z <= 9223372036854775807) (hm:0 <= m/\m <= 4611686018427387903) :
  Calls Tryz.prog 9 #[.agg #[J Y x,J Y y,J Y z],J Y m] W fun e W'=>e = .returned (.agg #[J Y (Jaf x m),J Y (Jaf y m),J Y (Jaf z m)])/\Below W.heap.size W W':=by
 have HPx:Hid _:=fun w=>Jf2 (Jfd x m w hx hm)
 have HPy:Hid _:=fun w=>Jf2 (Jfd y m w hy hm)
 have HPz:Hid _:=fun w=>Jf2 (Jfd z m w hz hm)
 generalize Jaf x m = px at *
 generalize Jaf y m = py at *
 generalize Jaf z m = pz at *
 obtain ⟨V,hV⟩:∃ V,V = (W.alloc (.cells #[J Y x,J Y y,J Y z] 27)).alloc (.cells #[J Y 0,J Y 0,J Y 0] 27):=⟨_,rfl⟩
 obtain ⟨vb,hvb⟩:∃ b,b = W.heap.size:=⟨_,rfl⟩
 obtain ⟨rb,hrb⟩:∃ b,b = W.heap.size + 1:=⟨_,rfl⟩
 have n2:=CW.new (W.alloc (.cells #[J Y x,J Y y,J Y z] 27)) [J Y 0,J Y 0,J Y 0] 27
 rw [World.size_alloc] at n2
 have CR:Hid (CW V rb [J Y 0,J Y 0,J Y 0]):=by show CW _ _ _;rw [hV,hrb];exact n2
 have CV:CW V vb [J Y x,J Y y,J Y z]:=by rw [hV,hvb];exact (CW.new W [J Y x,J Y y,J Y z] 27).step (Jb _ _)
 have HB:Hid (Below W.heap.size W V):=by show Below _ _ _;rw [hV];exact Jf (Jb _ _) (Jb _ _)
 have HRB:Hid (W.heap.size <= rb):=by show _ <= _;omega
 have v0:=(CV 0 _ rfl).1
 have v1:=(CV 1 _ rfl).1
 have v2:=(CV 2 _ rfl).1
 obtain ⟨z0_,zf0_⟩:=CR.out 0 _ rfl
 obtain ⟨z1_,zf1_⟩:=CR.out 1 _ rfl
 obtain ⟨z2_,zf2_⟩:=CR.out 2 _ rfl
 clear n2 CV hx hy hz hm
 go_enter func9,ntmps9
 go_upto_region 1 with fail
 rw [<- hV,<- hrb,<- hvb]
 clear hV hvb hrb
 refine RV.rs [.some (.pointer (some ⟨vb,0,none⟩)),.some (J Y x),.some (J Y m),.some (J Y px),.some (.pointer (some ⟨vb,1,none⟩)),.some (J Y y),.some (J Y m),.some (J Y py),.some (.pointer (some ⟨vb,2,none⟩)),.some (J Y z),.some (J Y m),.some (J Y pz),.some (.agg #[J Y px,J Y py,J Y pz]),none] [6,7,8,9,10,11,12,13,14,15,16,17,18,0] [(1,J Y m),(2,.pointer (some ⟨vb,0,none⟩)),(4,.pointer (some ⟨rb,0,none⟩))] (fun γ L w9=>(L 13 = false/\Below V.heap.size V w9) \/ (L 13 = true/\∃ w,Below V.heap.size V w/\w9 = (((w.setCell ⟨rb,0,none⟩ (J Y px)).setCell ⟨rb,1,none⟩ (J Y py)).setCell ⟨rb,2,none⟩ (J Y pz)))) ⟨rfl,rfl,rfl,trivial⟩ ?_ ?_ ?_
 ·exact Or.inl ⟨rfl,(Below.refl _ V).drew⟩
 ·intro D WA Z hD hWA hZ T
  simp only [RV.Outs,RV.Slots,Nat.reduceAdd] at T
  iterate 3 first
   | (refine RV.cc _ (RV.pu T (fun γ v L w hl h=>by rw [RV.mn (L:=L) (i:=_) (j:=13) (by decide)];exact h) (fun γ L a w hH hl h9 k9=>⟨_,?_,rfl⟩)) ?_;· simp [JD,go_sem,h9])
   | (refine RV.cc _ (RV.pu T (fun γ v L w hl h=>by rw [RV.mn (L:=L) (i:=_) (j:=13) (by decide)];exact h) (fun γ L a w hH hl h9 k9=>⟨_,?_,rfl⟩)) ?_;· have hB9:=Jal hH.glob (RV.ny hH (RV.wt (j:=13) hWA (by kernel_rfl)) hl);have q0:=Ja hB9 v0;simp [JC] at k9;simp [JD,go_sem,h9,k9,q0])
  refine RV.cc _ (RV.dc (fun γ L a w hH hl hA=>by have h9:=T γ L a w hH;have k9:=hA;simp [JC] at k9;have hB9:=Jal hH.glob (RV.ny hH (RV.wt (j:=13) (i:=3) hWA (by kernel_rfl)) hl);exact ⟨35,#[J Y x,J Y m],by simp [go_sem,h9,k9],JA (HPx.out w) (by rintro e w2 ⟨rfl,hb⟩;exact ⟨_,rfl,rfl,fun j v _ h=>h.keep _,Or.inl ⟨by rw [RV.mn (L:=L) (i:=3) (j:=13) (by decide)];exact RV.ny hH (RV.wt (j:=13) (i:=3) hWA (by kernel_rfl)) hl,hB9.trans (hb.mono hB9.size)⟩⟩)⟩)) ?_
  iterate 3 first
   | (refine RV.cc _ (RV.pu T (fun γ v L w hl h=>by rw [RV.mn (L:=L) (i:=_) (j:=13) (by decide)];exact h) (fun γ L a w hH hl h9 k9=>⟨_,?_,rfl⟩)) ?_;· simp [JD,go_sem,h9])
   | (refine RV.cc _ (RV.pu T (fun γ v L w hl h=>by rw [RV.mn (L:=L) (i:=_) (j:=13) (by decide)];exact h) (fun γ L a w hH hl h9 k9=>⟨_,?_,rfl⟩)) ?_;· have hB9:=Jal hH.glob (RV.ny hH (RV.wt (j:=13) hWA (by kernel_rfl)) hl);have q0:=Ja hB9 v1;simp [JC] at k9;simp [JD,go_sem,h9,k9,q0])
  refine RV.cc _ (RV.dc (fun γ L a w hH hl hA=>by have h9:=T γ L a w hH;have k9:=hA;simp [JC] at k9;have hB9:=Jal hH.glob (RV.ny hH (RV.wt (j:=13) (i:=7) hWA (by kernel_rfl)) hl);exact ⟨35,#[J Y y,J Y m],by simp [go_sem,h9,k9],JA (HPy.out w) (by rintro e w2 ⟨rfl,hb⟩;exact ⟨_,rfl,rfl,fun j v _ h=>h.keep _,Or.inl ⟨by rw [RV.mn (L:=L) (i:=7) (j:=13) (by decide)];exact RV.ny hH (RV.wt (j:=13) (i:=7) hWA (by kernel_rfl)) hl,hB9.trans (hb.mono hB9.size)⟩⟩)⟩)) ?_
  iterate 3 first
   | (refine RV.cc _ (RV.pu T (fun γ v L w hl h=>by rw [RV.mn (L:=L) (i:=_) (j:=13) (by decide)];exact h) (fun γ L a w hH hl h9 k9=>⟨_,?_,rfl⟩)) ?_;· simp [JD,go_sem,h9])
   | (refine RV.cc _ (RV.pu T (fun γ v L w hl h=>by rw [RV.mn (L:=L) (i:=_) (j:=13) (by decide)];exact h) (fun γ L a w hH hl h9 k9=>⟨_,?_,rfl⟩)) ?_;· have hB9:=Jal hH.glob (RV.ny hH (RV.wt (j:=13) hWA (by kernel_rfl)) hl);have q0:=Ja hB9 v2;simp [JC] at k9;simp [JD,go_sem,h9,k9,q0])
  refine RV.cc _ (RV.dc (fun γ L a w hH hl hA=>by have h9:=T γ L a w hH;have k9:=hA;simp [JC] at k9;have hB9:=Jal hH.glob (RV.ny hH (RV.wt (j:=13) (i:=11) hWA (by kernel_rfl)) hl);exact ⟨35,#[J Y z,J Y m],by simp [go_sem,h9,k9],JA (HPz.out w) (by rintro e w2 ⟨rfl,hb⟩;exact ⟨_,rfl,rfl,fun j v _ h=>h.keep _,Or.inl ⟨by rw [RV.mn (L:=L) (i:=11) (j:=13) (by decide)];exact RV.ny hH (RV.wt (j:=13) (i:=11) hWA (by kernel_rfl)) hl,hB9.trans (hb.mono hB9.size)⟩⟩)⟩)) ?_
  (refine RV.cc _ (RV.pu T (fun γ v L w hl h=>by rw [RV.mn (L:=L) (i:=_) (j:=13) (by decide)];exact h) (fun γ L a w hH hl h9 k9=>⟨_,?_,rfl⟩)) ?_;· simp [JC] at k9;simp [JD,go_sem,h9,k9])
  refine RV.cc _ (RV.does_store (fun γ L a w hH hl hA=>by have h9:=T γ L a w hH;have k9:=hA;simp [JC] at k9;have hB9:=Jal hH.glob hl;have z0:=Ja hB9 z0_;have zf0:=Jt hB9 z0_ zf0_;have z1:=Ja hB9 z1_;have zf1:=Jt hB9 z1_ zf1_;have z2:=Ja hB9 z2_;have zf2:=Jt hB9 z2_ zf2_;exact ⟨(((w.setCell ⟨rb,0,none⟩ (J Y px)).setCell ⟨rb,1,none⟩ (J Y py)).setCell ⟨rb,2,none⟩ (J Y pz)),by simp [JD,go_sem,z0,zf0,z1,zf1,z2,zf2,h9,k9],trivial,fun j v _ h=>h.keep _,Or.inr ⟨RV.more_self,w,hB9,rfl⟩⟩)) ?_
  exact RV.AllDo.nil
 ·intro γ w5 L9 hL hI9 hG9
  obtain ⟨w8,hb8,rfl⟩:=Jk9 hG9 (hL 13 (by decide))
  clear hL hI9 hG9
  simp only [RV.putL,Act.put,List.setIfInBounds_toArray,List.set_cons_zero,List.set_cons_succ]
  have HZ:Hid (Below W.heap.size W w8):=Jf HB.out hb8
  have r0:=((((CW.step CR.out hb8).set 0 (J Y px) (by simp)).set 1 (J Y py) (by simp)).set 2 (J Y pz) (by simp))
  have q0:=(r0 0 _ rfl).1
  have q1:=(r0 1 _ rfl).1
  have q2:=(r0 2 _ rfl).1
  clear r0
  go_wp2
  exact bodyPost_ret (v:=.agg #[J Y px,J Y py,J Y pz]) (by simp [results,results9,go_sem,q0,q1,q2]) rfl ⟨rfl,((HZ.out.setCell HRB.out _).setCell HRB.out _).setCell HRB.out _⟩
def RG (W0:World) (ok:Pt->Q4->Prop) (bd:Pt->Q4->List Value) (γ:Nat->Value) (L:Nat->Bool) (w:World):Prop:=
 Below W0.heap.size W0 w/\(L 2 = true->∃ t q,ok t q/\γ 2 = Jnt t q)/\(L 20 = true->∃ t q,ok t q/\γ 20 = .agg (bd t q).toArray) /\
 (L 21 = true->∃ b cs,γ 21 = .pointer (some ⟨b,0,none⟩)/\W0.heap.size <= b/\CW w b cs/\cs.length = 31/\(L 22 = true->∃ t q,ok t q/\cs = bd t q))
section
variable {W0 w w':World} {ok:Pt->Q4->Prop} {bd:Pt->Q4->List Value} {γ:Nat->Value} {L:Nat->Bool}
theorem RG.start (hb:Below W0.heap.size W0 w) (h:L = fun _=>false):RG W0 ok bd γ L w:=by
 subst h
 exact ⟨hb,(fun e=>by cases e),(fun e=>by cases e),(fun e=>by cases e)⟩
theorem RG.below (h:RG W0 ok bd γ L w) (hb:Below w.heap.size w w'):RG W0 ok bd γ L w':=by
 refine ⟨Jf h.1 hb,h.2.1,h.2.2.1,fun e=>?_⟩
 obtain ⟨b,cs,x1,x2,x3,x4,x5⟩:=h.2.2.2 e
 exact ⟨b,cs,x1,x2,x3.step hb,x4,x5⟩
theorem RG.other (h:RG W0 ok bd γ L w) {k:Nat} (v:Value) (h2:2 ≠ k) (h20:20 ≠ k) (h21:21 ≠ k) (h22:22 ≠ k):RG W0 ok bd (RV.upd γ k v) (more L k) w:=by
 refine ⟨h.1,fun e=>?_,fun e=>?_,fun e=>?_⟩
 ·rw [RV.mn h2] at e;rw [RV.upd_ne _ _ h2];exact h.2.1 e
 ·rw [RV.mn h20] at e;rw [RV.upd_ne _ _ h20];exact h.2.2.1 e
 ·rw [RV.mn h21] at e;rw [RV.upd_ne _ _ h21,RV.mn h22];exact h.2.2.2 e
theorem RG.got (h:RG W0 ok bd γ L w) {t:Pt} {q:Q4} (ho:ok t q) (hb:Below w.heap.size w w'):RG W0 ok bd (RV.upd γ 2 (Jnt t q)) (more L 2) w':=by
 have h9:=h.below hb
 refine ⟨h9.1,fun _=>⟨t,q,ho,by rw [RV.upd_self]⟩,fun e=>?_,fun e=>?_⟩
 ·rw [RV.mn (by decide)] at e;rw [RV.upd_ne _ _ (by decide)];exact h9.2.2.1 e
 ·rw [RV.mn (by decide)] at e;rw [RV.upd_ne _ _ (by decide),RV.mn (by decide)];exact h9.2.2.2 e
theorem RG.put (h:RG W0 ok bd γ L w) {t:Pt} {q:Q4} (ho:ok t q):RG W0 ok bd (RV.upd γ 20 (.agg (bd t q).toArray)) (more L 20) w:=by
 refine ⟨h.1,fun e=>?_,fun _=>⟨t,q,ho,by rw [RV.upd_self]⟩,fun e=>?_⟩
 ·rw [RV.mn (by decide)] at e;rw [RV.upd_ne _ _ (by decide)];exact h.2.1 e
 ·rw [RV.mn (by decide)] at e;rw [RV.upd_ne _ _ (by decide),RV.mn (by decide)];exact h.2.2.2 e
theorem RG.made (h:RG W0 ok bd γ L w) (h22:L 22 = false) (cs:List Value) (hc:cs.length = 31):RG W0 ok bd (RV.upd γ 21 (.pointer (some ⟨w.heap.size,0,none⟩))) (more L 21) (w.alloc (.cells cs.toArray 39)):=by
 have h9:=h.below (Jb w (.cells cs.toArray 39))
 refine ⟨h9.1,fun e=>?_,fun e=>?_,fun _=>⟨_,cs,by rw [RV.upd_self],h.1.size,CW.new _ _ _,hc,fun e=>by rw [RV.mn (by decide),h22] at e;cases e⟩⟩
 ·rw [RV.mn (by decide)] at e;rw [RV.upd_ne _ _ (by decide)];exact h9.2.1 e
 ·rw [RV.mn (by decide)] at e;rw [RV.upd_ne _ _ (by decide)];exact h9.2.2.1 e
theorem RG.fill (h:RG W0 ok bd γ L w) {b:Nat} {cs:List Value} (hb:γ 21 = .pointer (some ⟨b,0,none⟩)) (hw:W0.heap.size <= b) (hc:CW w b cs) (h31:cs.length = 31) {t:Pt} {q:Q4} (ho:ok t q) (hl:(bd t q).length = 31) (v:Value) :
  RG W0 ok bd (RV.upd γ 22 v) (more L 22) (w.setCells b 0 (bd t q)):=by
 refine ⟨h.1.trans (Jbl hw _ _ _),fun e=>?_,fun e=>?_,fun e=>⟨b,bd t q,by rw [RV.upd_ne _ _ (by decide)];exact hb,hw,hc.sets (by rw [hl,h31]),hl,fun _=>⟨t,q,ho,rfl⟩⟩⟩
 ·rw [RV.mn (by decide)] at e;rw [RV.upd_ne _ _ (by decide)];exact h.2.1 e
 ·rw [RV.mn (by decide)] at e;rw [RV.upd_ne _ _ (by decide)];exact h.2.2.1 e
end
end
section
open Go.RowKit Go.Shelf
theorem Jsm (n a b:Int) (w:World) :
  Calls Tryz.prog 146 #[J Y n,J Y a,J Y b] w fun e w'=>e = .returned (.bool (inR n a b))/\w' = w:=by
 unfold inR
 by_cases h1:a <= n
 ·go_enter func146,ntmps146
  go_wp2
  go_ret
  exact ⟨by simp [h1],rfl⟩
 ·go_enter func146,ntmps146
  go_wp2
  go_ret
  exact ⟨by simp;omega,rfl⟩
theorem Jan (n a b:Int) (w:World) (t:Bool) (h:inR n a b = t) :
  Calls Tryz.prog 146 #[J Y n,J Y a,J Y b] w fun e w'=>e = .returned (.bool t)/\w' = w:=by subst h;exact Jsm n a b w
theorem Jbx (n:Int) (w:World) (h:-1152921504606846976 <= n/\n <= 1152921504606846976) :
  Calls Tryz.prog 163 #[J Y n] w fun e w'=>e = .returned (J Y (n.natAbs:Nat))/\w' = w:=by
 by_cases h1:n < 0
 ·go_enter func163,ntmps163
  go_wp2
  go_ret
  exact ⟨congrArg (fun k=>Ending.returned (J Y k)) (by omega),rfl⟩
 ·go_enter func163,ntmps163
  go_wp2
  go_ret
  exact ⟨congrArg (fun k=>Ending.returned (J Y k)) (by omega),rfl⟩
def Jdi (x y z:Nat):Nat->Nat
 | 0=>0
 | 1=>x
 | 2=>Nat.gcd x y
 | _=>Nat.gcd (Nat.gcd x y) z
def Jrt (x y z:Nat):Nat->Nat
 | 0=>x
 | 1=>y
 | _=>z
theorem Jka (x y z i:Nat) (hi:i < 3):Nat.gcd (Jdi x y z i) (Jrt x y z i) = Jdi x y z (i + 1):=by
 have:i = 0 \/ i = 1 \/ i = 2:=by omega
 rcases this with rfl | rfl | rfl
 ·exact Nat.gcd_zero_left x
 ·rfl
 ·rfl
theorem Jpp (x y z B i:Nat) (hx:x <= B) (hy:y <= B) (hz:z <= B):Jdi x y z i <= B:=by
 match i with
 | 0=>exact Nat.zero_le _
 | 1=>exact hx
 | 2=>exact Jnh hx hy
 | _ + 3=>exact Jnh (Jnh hx hy) hz
theorem Jsh (x y z B i:Nat) (hx:x <= B) (hy:y <= B) (hz:z <= B):Jrt x y z i <= B:=by
 match i with
 | 0=>exact hx
 | 1=>exact hy
 | _ + 2=>exact hz
theorem Jpq {W:World} {g:Nat} {x y z:Nat} (h:Cells W g [J Y (x:Int),J Y (y:Int),J Y (z:Int)]) (i:Nat) (hi:i < 3):W.cell? ⟨g,i,none⟩ = some (J Y (Jrt x y z i:Int)):=by
 have:i = 0 \/ i = 1 \/ i = 2:=by omega
 rcases this with rfl | rfl | rfl
 ·exact (h 0 _ rfl).1
 ·exact (h 1 _ rfl).1
 ·exact (h 2 _ rfl).1
theorem Jp0 (p:Pt) (w0:World) (hp:p.inB 4398046511104 = true) :
  Calls Tryz.prog 162 #[p.v] w0 fun e W=>e = .returned p.low.v/\Below w0.heap.size w0 W:=by
 have hq:=hp
 rw [Pt.inB_iff] at hq
 have S1:Hid _:=fun w'=>Jbx p.x w' (by omega)
 have S2:Hid _:=fun w'=>Jbx p.y w' (by omega)
 have S3:Hid _:=fun w'=>Jbx p.z w' (by omega)
 have hg3:Hid (Jdi p.x.natAbs p.y.natAbs p.z.natAbs 3 = p.g):=rfl
 have HLE:Hid (∀ i,Jdi p.x.natAbs p.y.natAbs p.z.natAbs i <= 4398046511104):=fun i=>Jpp _ _ _ _ _ (by omega) (by omega) (by omega)
 have HLN:Hid (∀ i,Jrt p.x.natAbs p.y.natAbs p.z.natAbs i <= 4398046511104):=fun i=>Jsh _ _ _ _ _ (by omega) (by omega) (by omega)
 have HL:Hid (p.low = if p.g = 0 then p else p.by p.g):=rfl
 generalize p.low = r at *
 generalize p.g = G at *
 obtain ⟨x,y,z⟩:=p
 dsimp only at *
 generalize hnx:x.natAbs = nx at *
 generalize hny:y.natAbs = ny at *
 generalize hnz:z.natAbs = nz at *
 clear hp hnx hny hnz
 unfold Pt.v at *
 dsimp only at *
 go_enter func162,ntmps162
 go_upto_region 2 with fail
 obtain ⟨V,hV⟩:∃ V:World,V = ((w0.alloc (.cells #[J Y x,J Y y,J Y z] 23)).alloc (.cells #[J Y 0,J Y 0,J Y 0] 23)):=⟨_,rfl⟩
 have hBV:Below w0.heap.size w0 V:=by rw [hV];exact (((Below.refl _ w0).alloc (by simp;try omega) _).alloc (by simp;try omega) _)
 have V0_0:V.cell? ⟨w0.heap.size,0,none⟩ = some (J Y x):=by rw [hV];simp [go_sem]
 have V0_1:V.cell? ⟨w0.heap.size,1,none⟩ = some (J Y y):=by rw [hV];simp [go_sem]
 have V0_2:V.cell? ⟨w0.heap.size,2,none⟩ = some (J Y z):=by rw [hV];simp [go_sem]
 have V1_0:V.cell? ⟨w0.heap.size + 1,0,none⟩ = some (J Y 0):=by rw [hV];simp [go_sem]
 have V1_1:V.cell? ⟨w0.heap.size + 1,1,none⟩ = some (J Y 0):=by rw [hV];simp [go_sem]
 have V1_2:V.cell? ⟨w0.heap.size + 1,2,none⟩ = some (J Y 0):=by rw [hV];simp [go_sem]
 have Vf1_0:V.frozen? ⟨w0.heap.size + 1,0,none⟩ = false:=by rw [hV];simp [go_sem]
 have Vf1_1:V.frozen? ⟨w0.heap.size + 1,1,none⟩ = false:=by rw [hV];simp [go_sem]
 have Vf1_2:V.frozen? ⟨w0.heap.size + 1,2,none⟩ = false:=by rw [hV];simp [go_sem]
 have Vf0_0:V.frozen? ⟨w0.heap.size,0,none⟩ = false:=by rw [hV];simp [go_sem]
 have Vf0_1:V.frozen? ⟨w0.heap.size,1,none⟩ = false:=by rw [hV];simp [go_sem]
 have Vf0_2:V.frozen? ⟨w0.heap.size,2,none⟩ = false:=by rw [hV];simp [go_sem]
 rw [<- hV]
 clear hV
 refine RV.region_by (fun j v w=>match j with | 0=>v = .pointer (some ⟨w0.heap.size,0,none⟩) | 1=>v = J Y x | 2=>v = J Y (nx:Int) | 3=>v = .pointer (some ⟨w0.heap.size,1,none⟩) | 4=>v = J Y y | 5=>v = J Y (ny:Int) | 6=>v = .pointer (some ⟨w0.heap.size,2,none⟩) | 7=>v = J Y z | 8=>v = J Y (nz:Int) | 9=>(fun v w=>∃ g,v = .slice (some ⟨g,0,none⟩) 3 3/\V.heap.size <= g/\Cells w g [J Y (nx:Int),J Y (ny:Int),J Y (nz:Int)]) v w | 10=>(fun v w=>∃ g,v = .slice (some ⟨g,0,none⟩) 3 3/\V.heap.size <= g/\Cells w g [J Y (nx:Int),J Y (ny:Int),J Y (nz:Int)]) v w | _=>True) (fun γ L w9=>Below V.heap.size V w9) (by kernel_rfl) (by kernel_rfl) (by kernel_rfl) (by kernel_rfl) ?_ ?_ ?_
 ·exact (Below.refl _ V).drew
 ·generalize hD:Jai _ = D
  generalize hWA:Jab _ = WA
  generalize hZ:Act.mk _ _ = Z
  refine RV.AllDo.name ?_
  intro R hR
  have kn:RV.Kn R [.some (.pointer (some ⟨w0.heap.size,0,none⟩)),.some (J Y x),.some (J Y (nx:Int)),.some (.pointer (some ⟨w0.heap.size,1,none⟩)),.some (J Y y),.some (J Y (ny:Int)),.some (.pointer (some ⟨w0.heap.size,2,none⟩)),.some (J Y z),.some (J Y (nz:Int)),none,none] 0:=by rw [hR];exact ⟨fun _ _=>Iff.rfl,fun _ _=>Iff.rfl,fun _ _=>Iff.rfl,fun _ _=>Iff.rfl,fun _ _=>Iff.rfl,fun _ _=>Iff.rfl,fun _ _=>Iff.rfl,fun _ _=>Iff.rfl,fun _ _=>Iff.rfl,trivial⟩
  have T:=RV.kfacts [10,11,12,13,14,15,16,17,18,19,5] [(1,.pointer (some ⟨w0.heap.size,0,none⟩))] hD hZ kn ⟨rfl,trivial⟩ (by kernel_rfl) (by kernel_rfl)
  simp only [RV.Outs,RV.Slots,Nat.reduceAdd] at T
  have r9:∀ v w,R 9 v w = ((fun v w=>∃ g,v = .slice (some ⟨g,0,none⟩) 3 3/\V.heap.size <= g/\Cells w g [J Y (nx:Int),J Y (ny:Int),J Y (nz:Int)]) v w):=fun v w=>by rw [hR];rfl
  have r10:∀ v w,R 10 v w = ((fun v w=>∃ g,v = .slice (some ⟨g,0,none⟩) 3 3/\V.heap.size <= g/\Cells w g [J Y (nx:Int),J Y (ny:Int),J Y (nz:Int)]) v w):=fun v w=>by rw [hR];rfl
  have K:∀ j v w w',Below w.heap.size w w'->R j v w->R j v w':=by
   rw [hR]
   intro j v w w' hb h
   revert h
   dsimp only
   split
   all_goals first | exact id | exact (fun ⟨g,t1,t2,t3⟩=>⟨g,t1,t2,Cells.step t3 hb⟩)
  iterate 2 first
   | (refine RV.cc _ (RV.pk kn T (fun γ v L w hl h=>h) (fun γ L a w hH hl h9 k9=>⟨_,?_,rfl⟩)) ?_;· simp [JD,go_sem,h9])
   | (refine RV.cc _ (RV.pk kn T (fun γ v L w hl h=>h) (fun γ L a w hH hl h9 k9=>⟨_,?_,rfl⟩)) ?_;· have hB9:=hH.glob;have q0:=Ja hB9 V0_0;simp [JC] at k9;simp [JD,go_sem,h9,k9,q0])
  refine RV.cc _ (RV.dc (fun γ L a w hH hl hA=>by have h9:=T _ _ γ L a w hH;have k9:=hA;simp [JC] at k9;have hB9:=hH.glob;exact ⟨163,#[J Y x],by simp [go_sem,h9,k9],JA (S1.out w) (by rintro e w2 ⟨rfl,rfl⟩;exact ⟨_,rfl,((kn.at (k:=2) rfl _ _).2 rfl),fun j v _ h=>h,hB9⟩)⟩)) ?_
  iterate 2 first
   | (refine RV.cc _ (RV.pk kn T (fun γ v L w hl h=>h) (fun γ L a w hH hl h9 k9=>⟨_,?_,rfl⟩)) ?_;· simp [JD,go_sem,h9])
   | (refine RV.cc _ (RV.pk kn T (fun γ v L w hl h=>h) (fun γ L a w hH hl h9 k9=>⟨_,?_,rfl⟩)) ?_;· have hB9:=hH.glob;have q0:=Ja hB9 V0_1;simp [JC] at k9;simp [JD,go_sem,h9,k9,q0])
  refine RV.cc _ (RV.dc (fun γ L a w hH hl hA=>by have h9:=T _ _ γ L a w hH;have k9:=hA;simp [JC] at k9;have hB9:=hH.glob;exact ⟨163,#[J Y y],by simp [go_sem,h9,k9],JA (S2.out w) (by rintro e w2 ⟨rfl,rfl⟩;exact ⟨_,rfl,((kn.at (k:=5) rfl _ _).2 rfl),fun j v _ h=>h,hB9⟩)⟩)) ?_
  iterate 2 first
   | (refine RV.cc _ (RV.pk kn T (fun γ v L w hl h=>h) (fun γ L a w hH hl h9 k9=>⟨_,?_,rfl⟩)) ?_;· simp [JD,go_sem,h9])
   | (refine RV.cc _ (RV.pk kn T (fun γ v L w hl h=>h) (fun γ L a w hH hl h9 k9=>⟨_,?_,rfl⟩)) ?_;· have hB9:=hH.glob;have q0:=Ja hB9 V0_2;simp [JC] at k9;simp [JD,go_sem,h9,k9,q0])
  refine RV.cc _ (RV.dc (fun γ L a w hH hl hA=>by have h9:=T _ _ γ L a w hH;have k9:=hA;simp [JC] at k9;have hB9:=hH.glob;exact ⟨163,#[J Y z],by simp [go_sem,h9,k9],JA (S3.out w) (by rintro e w2 ⟨rfl,rfl⟩;exact ⟨_,rfl,((kn.at (k:=8) rfl _ _).2 rfl),fun j v _ h=>h,hB9⟩)⟩)) ?_
  refine RV.cc _ (RV.does_step (fun γ L a w hH hl hA=>by have h9:=T _ _ γ L a w hH;have k9:=hA;simp [JC] at k9;have hB9:=hH.glob;exact ⟨.slice (some ⟨w.heap.size,0,none⟩) 3 3,w.alloc (.cells #[J Y (nx:Int),J Y (ny:Int),J Y (nz:Int)] 3),by simp [JD,go_sem,h9,k9],(r9 _ _).mpr ⟨w.heap.size,rfl,hB9.size,Cells.new w [J Y (nx:Int),J Y (ny:Int),J Y (nz:Int)] 3⟩,fun j v _ h=>K j v _ _ (Jb w _) h,hB9.trans ((Jb w _).mono hB9.size)⟩)) ?_
  refine RV.cc _ (RV.dp (fun γ v L w hl h=>h) (fun γ L a w hH hl hA=>by have l0:L 9 = true:=hA ⟨9,.data⟩ (by simp) rfl;have e0:=hH.slot 9 18 (by rw [<- hD];rfl) l0;have g0:=hH.holds 9 l0;rw [r9] at g0;exact ⟨γ 9,by simp [JD,go_sem,e0],(r10 _ _).mpr g0⟩)) ?_
  exact RV.AllDo.nil
 ·intro γ a5 w5 L9 hL hLo hH
  have ha:=RV.held_act hH hL (by kernel_rfl) (by kernel_rfl)
  have hb8:=hH.glob
  obtain ⟨gs,y10,hgs,HCE⟩:=hH.holds 10 (hL 10 (by decide))
  rw [ha]
  clear ha hH hL hLo
  simp only [RV.putAll,Act.put,List.setIfInBounds_toArray,List.set_cons_zero,List.set_cons_succ,Nat.zero_add,Nat.reduceAdd]
  rw [y10]
  have hB5:Hid _:=hBV.trans (hb8.mono hBV.size)
  have HCE:Hid _:=HCE
  have b0:Hid (Box3 w5 w0.heap.size ⟨x,y,z⟩):=⟨Ja hb8 V0_0,Ja hb8 V0_1,Ja hb8 V0_2,Jt hb8 V0_0 Vf0_0,Jt hb8 V0_1 Vf0_1,Jt hb8 V0_2 Vf0_2⟩
  have b1:Hid (Box3 w5 (w0.heap.size + 1) Pt.O):=⟨Ja hb8 V1_0,Ja hb8 V1_1,Ja hb8 V1_2,Jt hb8 V1_0 Vf1_0,Jt hb8 V1_1 Vf1_1,Jt hb8 V1_2 Vf1_2⟩
  clear y10 hb8 V0_0 V0_1 V0_2 Vf0_0 Vf0_1 Vf0_2 V1_0 V1_1 V1_2 Vf1_0 Vf1_1 Vf1_2 hBV S1 S2 S3
  go_wp2_with (fail)
  go_loopg [3,5] 3 (fun gm s3 s5 wr=>∃ i:Nat,s3 = J Y (Jdi nx ny nz i:Nat)/\s5 = J Y (i:Int)/\i <= 3/\gm = 3 - i/\wr = w5)
  case atStart=>exact ⟨0,rfl,rfl,by omega,rfl,rfl⟩
  case round =>
   obtain ⟨i,rfl,rfl,hi,hgm,hwr⟩:=hrel
   subst hwr
   have HG1:Hid _:=hgm
   clear hgm
   by_cases hit:i < 3
   ·have hc:=Jpq HCE.out i hit
    have HN:Hid _:=Jka nx ny nz i hit
    have l1:=HLE.out i
    have l2:=HLN.out i
    generalize Jrt nx ny nz i = nb at *
    generalize hga:Jdi nx ny nz i = na at *
    clear hga
    go_wp2_with (fail)
    go_loopg [6,7] nb (fun gm s6 s7 wx=>∃ a b:Nat,s6 = J Y (a:Int)/\s7 = J Y (b:Int)/\a <= 4398046511104/\b <= 4398046511104/\gm = b/\wx = wr/\Hid (Nat.gcd a b = Jdi nx ny nz (i + 1)))
    case atStart=>exact ⟨na,nb,rfl,rfl,l1,l2,rfl,rfl,HN⟩
    case round =>
     clear HN l1 l2
     obtain ⟨a,b,rfl,rfl,la,lb,hgm,hwx,HN⟩:=hrel
     subst hwx
     have HG2:Hid _:=hgm
     clear hgm
     by_cases hb0:b = 0
     ·subst hb0
      have e:a = Jdi nx ny nz (i + 1):=by rw [<- HN.out];simp
      clear HN
      have HE:Hid _:=e
      clear e
      go_wp2_with (fail)
      go_roundg (3 - (i + 1))
      case measure=>have:=HG1.out;omega
      case rel=>exact ⟨i + 1,by rw [<- HE.out],by go_num,by omega,rfl,rfl⟩
     ·have hb1:¬ (b:Int) = 0:=by omega
      have hlt:=Nat.mod_lt a (Nat.pos_of_ne_zero hb0)
      have HN2:Hid (Nat.gcd b (a % b) = Jdi nx ny nz (i + 1)):=by show _ = _;rw [<- HN.out,Nat.gcd_comm a b,Nat.gcd_rec b a,Nat.gcd_comm]
      clear HN hb0
      go_wp2_with (fail)
      go_roundg (a % b)
      case measure=>have:=HG2.out;omega
      case rel=>exact ⟨b,a % b,rfl,by go_num,lb,by omega,rfl,rfl,HN2⟩
   ·have e:i = 3:=by omega
    subst e
    rw [hg3.out]
    have hGl:G <= 4398046511104:=by have:=HLE.out 3;rw [hg3.out] at this;exact this
    obtain ⟨c0,c1,c2,_,_,_⟩:=b0.out
    obtain ⟨r0,r1,r2,f0,f1,f2⟩:=b1.out
    simp only [Pt.O] at r0 r1 r2
    dsimp only at c0 c1 c2
    by_cases h0:G = 0
    ·have h0':(G:Int) = 0:=by omega
     have e:r = ⟨x,y,z⟩:=by rw [HL.out,if_pos h0]
     subst e
     clear HL h0
     go_wp2_with (fail)
     refine bodyPost_ret (v:=.agg #[J Y x,J Y y,J Y z]) (by simp [results,results162,go_sem,r0,r1,r2]) rfl ⟨rfl,?_⟩
     exact Jc8 hB5.out (by omega) _ _ _
    ·have h0':¬ (G:Int) = 0:=by omega
     have h0p:0 < (G:Int):=by omega
     have e:r = Pt.by ⟨x,y,z⟩ G:=by rw [HL.out,if_neg h0]
     clear HL
     obtain ⟨rx,ry,rz⟩:=r
     simp only [Pt.by,Pt.mk.injEq] at e
     obtain ⟨rfl,rfl,rfl⟩:=e
     clear h0
     have hne:¬ w0.heap.size = w0.heap.size + 1:=by omega
     go_wp2_with (fail)
     go_region
     go_wp2_with (fail)
     refine bodyPost_ret (v:=.agg #[J Y (x.tdiv G),J Y (y.tdiv G),J Y (z.tdiv G)]) (by simp [results,results162,go_sem,r0,r1,r2]) rfl ⟨rfl,?_⟩
     exact Jc8 hB5.out.drew (by omega) _ _ _
theorem Jc7 (p:Pt) (w0:World) :
  Calls Tryz.prog 152 #[p.v] w0 fun e W=>e = .returned p.short.v/\Below w0.heap.size w0 W:=by
 have HLO:Hid (∀ q:Pt,q.inB 4398046511104 = true->∀ w',Calls Tryz.prog 162 #[q.v] w' fun e W=>e = .returned q.low.v/\Below w'.heap.size w' W):=fun q hq w'=>Jp0 q w' hq
 have bx0:Hid (Box3 ((w0.alloc (.cells #[J Y p.x,J Y p.y,J Y p.z] 23)).alloc (.cells #[J Y 0,J Y 0,J Y 0] 23)) w0.heap.size p):=(Box3.new w0 p.x p.y p.z _).step (Jb _ _)
 have bx1:Hid (Box3 ((w0.alloc (.cells #[J Y p.x,J Y p.y,J Y p.z] 23)).alloc (.cells #[J Y 0,J Y 0,J Y 0] 23)) (w0.heap.size + 1) Pt.O):=by have:=Box3.new (w0.alloc (.cells #[J Y p.x,J Y p.y,J Y p.z] 23)) 0 0 0 23;rwa [World.size_alloc] at this
 have hB0:Hid (Below w0.heap.size w0 ((w0.alloc (.cells #[J Y p.x,J Y p.y,J Y p.z] 23)).alloc (.cells #[J Y 0,J Y 0,J Y 0] 23))):=Jf (Jb w0 _) (Jb _ _)
 obtain ⟨r,hr⟩:∃ r,p.short = r:=⟨_,rfl⟩
 rw [hr]
 have HR:Hid _:=hr
 clear hr
 have HIN:Hid (p.inB 4398046511104 = (inR p.x (-4398046511104) 4398046511104 && (inR p.y (-4398046511104) 4398046511104 && inR p.z (-4398046511104) 4398046511104))):=by
  show _ = _
  rw [Bool.eq_iff_iff,Pt.inB_iff]
  simp [inR]
 unfold Pt.v at *
 go_enter func152,ntmps152
 go_upto_region 1 with fail
 obtain ⟨V,hV⟩:∃ V:World,V = (w0.alloc (.cells #[J Y p.x,J Y p.y,J Y p.z] 23)).alloc (.cells #[J Y 0,J Y 0,J Y 0] 23):=⟨_,rfl⟩
 rw [<- hV] at bx0 bx1 hB0 ⊢
 clear hV
 obtain ⟨c0,c1,c2,_,_,_⟩:=bx0.out
 go_cut [19] from 4 (fun s wc=>s = .bool (!(p.inB 4398046511104))/\wc = V)
 case first =>
  cases h1:inR p.x (-4398046511104) 4398046511104 with
  | false =>
   go_wp2_with (go_at_call 146;refine (Jan _ _ _ _ false h1).mono ?_;rintro e w' ⟨rfl,rfl⟩)
   go_meet
   case rel=>exact ⟨by rw [HIN.out,h1];rfl,rfl⟩
  | true =>
   cases h2:inR p.y (-4398046511104) 4398046511104 with
   | false =>
    go_wp2_with (fail)
    refine JA (Jan p.x _ _ _ true h1) ?_
    rintro e w' ⟨rfl,rfl⟩
    go_wp2_with (fail)
    refine JA (Jan p.y _ _ _ false h2) ?_
    rintro e w' ⟨rfl,rfl⟩
    go_wp2_with (fail)
    go_meet
    case rel=>exact ⟨by rw [HIN.out,h1,h2];rfl,rfl⟩
   | true =>
    cases h3:inR p.z (-4398046511104) 4398046511104 with
    | false =>
     go_wp2_with (fail)
     refine JA (Jan p.x _ _ _ true h1) ?_
     rintro e w' ⟨rfl,rfl⟩
     go_wp2_with (fail)
     refine JA (Jan p.y _ _ _ true h2) ?_
     rintro e w' ⟨rfl,rfl⟩
     go_wp2_with (fail)
     refine JA (Jan p.z _ _ _ false h3) ?_
     rintro e w' ⟨rfl,rfl⟩
     go_wp2_with (fail)
     go_meet
     case rel=>exact ⟨by rw [HIN.out,h1,h2,h3];rfl,rfl⟩
    | true =>
     go_wp2_with (fail)
     refine JA (Jan p.x _ _ _ true h1) ?_
     rintro e w' ⟨rfl,rfl⟩
     go_wp2_with (fail)
     refine JA (Jan p.y _ _ _ true h2) ?_
     rintro e w' ⟨rfl,rfl⟩
     go_wp2_with (fail)
     refine JA (Jan p.z _ _ _ true h3) ?_
     rintro e w' ⟨rfl,rfl⟩
     go_wp2_with (fail)
     go_meet
     case rel=>exact ⟨by rw [HIN.out,h1,h2,h3];rfl,rfl⟩
 case rest =>
  obtain ⟨rfl,hwc⟩:=hcut
  subst hwc
  clear HIN c0 c1 c2
  cases hin:p.inB 4398046511104 with
  | false =>
   have e:r = Pt.O:=by rw [<- HR.out];unfold Pt.short;rw [if_neg (by rw [hin];decide)]
   clear HR
   subst e
   obtain ⟨c0,c1,c2,f0,f1,f2⟩:=bx1.out
   simp only [Pt.O] at c0 c1 c2
   go_wp2_with (fail)
   refine bodyPost_ret (v:=.agg #[J Y 0,J Y 0,J Y 0]) (by simp [results,results152,go_sem,c0,c1,c2]) rfl ⟨rfl,?_⟩
   exact Jc8 hB0.out (by omega) 0 0 0
  | true =>
   have hlow:=Pt.low_in hin
   have HR:Hid (r = (Jcq 43 p.low).low):=by show _ = _;rw [<- HR.out];unfold Pt.short;rw [if_pos hin];rfl
   have HL1:Hid _:=HLO.out p hin
   obtain ⟨c0,c1,c2,_,_,_⟩:=bx0.out
   go_wp2_with (fail)
   refine JA (HL1.out _) ?_
   clear HL1 c0 c1 c2
   rintro e V2 ⟨rfl,hb⟩
   have b1:Hid _:=(bx1.out.step hb).step (Jb V2 (.cells #[J Y p.low.x,J Y p.low.y,J Y p.low.z] 23))
   have hB:Hid _:=Jf (Jf hB0.out hb) (Jb V2 (.cells #[J Y p.low.x,J Y p.low.y,J Y p.low.z] 23))
   have b3:Hid _:=Box3.new V2 p.low.x p.low.y p.low.z 23
   have hsz:w0.heap.size + 1 < V2.heap.size:=(bx1.out.step hb).lt
   clear hb
   go_wp2_with (fail)
   obtain ⟨bq,hbq⟩:∃ bq,bq = V2.heap.size:=⟨_,rfl⟩
   rw [<- hbq] at b3 hsz ⊢
   have hL2:p.low.inB (2 ^ 43:Nat) = true:=J6 hlow (by decide)
   go_loopg [] 43 (fun g wr=>∃ q:Pt,Hid (Box3 wr bq q)/\Hid (Box3 wr (w0.heap.size + 1) Pt.O)/\Hid (Below w0.heap.size w0 wr)/\g <= 43/\Hid (Jcq g q = Jcq 43 p.low)/\Hid (q.inB (2 ^ g:Nat) = true))
   case atStart=>exact ⟨p.low,b3,b1,hB,Nat.le_refl _,rfl,hL2⟩
   case round =>
    clear b3 b1 hB hL2 hbq
    obtain ⟨q,b3,b1,hB,hg,HF,HI⟩:=hrel
    have hG:Hid _:=hg
    have hq2:q.inB 1152921504606846976 = true:=J6 HI.out (by have:=Jrn _ hg;omega)
    rw [Pt.inB_iff] at hq2
    clear hg
    obtain ⟨c0,c1,c2,f0,f1,f2⟩:=b3.out
    have HX:Hid (q.inB 1048576 = !(decide (1048576 < (q.x.natAbs:Int)) || (decide (1048576 < (q.y.natAbs:Int)) || decide (1048576 < (q.z.natAbs:Int))))):=by
     show _ = _
     rw [Bool.eq_iff_iff,Pt.inB_iff]
     simp
     omega
    go_upto_region 4 with fail
    go_cut [38] from 23 to 48 (fun s wc=>s = .bool (!(q.inB 1048576))/\wc = wr)
    case first =>
     by_cases h1:1048576 < (q.x.natAbs:Int)
     ·go_wp2_with (fail)
      refine JA (Jbx q.x _ hq2.1) ?_
      rintro e w' ⟨rfl,rfl⟩
      go_wp2_with (fail)
      go_meet
      case rel=>exact ⟨by rw [HX.out];simp [h1],rfl⟩
     ·by_cases h2:1048576 < (q.y.natAbs:Int)
      ·go_wp2_with (fail)
       refine JA (Jbx q.x _ hq2.1) ?_
       rintro e w' ⟨rfl,rfl⟩
       go_wp2_with (fail)
       refine JA (Jbx q.y _ hq2.2.1) ?_
       rintro e w' ⟨rfl,rfl⟩
       go_wp2_with (fail)
       go_meet
       case rel=>exact ⟨by rw [HX.out];simp [h2],rfl⟩
      ·go_wp2_with (fail)
       refine JA (Jbx q.x _ hq2.1) ?_
       rintro e w' ⟨rfl,rfl⟩
       go_wp2_with (fail)
       refine JA (Jbx q.y _ hq2.2.1) ?_
       rintro e w' ⟨rfl,rfl⟩
       go_wp2_with (fail)
       refine JA (Jbx q.z _ hq2.2.2) ?_
       rintro e w' ⟨rfl,rfl⟩
       go_wp2_with (fail)
       go_meet
       case rel=>exact ⟨by rw [HX.out,Bool.not_not,decide_eq_false (p:=1048576 < (q.x.natAbs:Int)) (by omega),decide_eq_false (p:=1048576 < (q.y.natAbs:Int)) (by omega)];rfl,rfl⟩
    case rest =>
     obtain ⟨rfl,hwc⟩:=hcut
     subst hwc
     clear HX
     cases hq:q.inB 1048576 with
     | false =>
      obtain ⟨j,hj,ej,hin2⟩:=Jkf _ q hq HI.out
      have HJ:Hid _:=And.intro hj (And.intro ej hin2)
      have b3:Hid (Box3 (set3 wc bq (q.by 2).x (q.by 2).y (q.by 2).z) bq (q.by 2)):=b3.out.set _ _ _
      have b1:Hid (Box3 (set3 wc bq (q.by 2).x (q.by 2).y (q.by 2).z) (w0.heap.size + 1) Pt.O):=b1.out.other (by omega) _ _ _
      have hB:Hid (Below w0.heap.size w0 (set3 wc bq (q.by 2).x (q.by 2).y (q.by 2).z)):=Jc8 hB.out (by omega) _ _ _
      unfold set3 at b3 b1 hB
      clear hj ej hin2
      go_wp2_with (fail)
      go_roundg j
      case measure=>have:=HJ.out.1;omega
      case rel=>exact ⟨q.by 2,b3,b1,hB,by have:=HJ.out.1;have:=hG.out;omega,HJ.out.2.1.symm.trans HF.out,HJ.out.2.2⟩
     | true =>
      have e:r = q.low:=by rw [HR.out,<- HF.out,Jol _ _ hq]
      have HL1:Hid _:=HLO.out q (J6 hq (by decide))
      rw [<- e] at HL1
      clear e HR HF HI HLO
      go_wp2_with (fail)
      refine JA (HL1.out _) ?_
      clear HL1 c0 c1 c2 f0 f1 f2
      rintro e V4 ⟨rfl,hb⟩
      obtain ⟨c0,c1,c2,f0,f1,f2⟩:=b1.out.step hb
      have hB:Hid _:=Jf hB.out hb
      go_wp2_with (fail)
      refine bodyPost_ret (v:=.agg #[J Y r.x,J Y r.y,J Y r.z]) (by simp [results,results152,go_sem,c0,c1,c2]) rfl ⟨rfl,?_⟩
      exact Jc8 hB.out (by omega) _ _ _
end
end Go.Proofs.YteebbpioffdncaaGreat
