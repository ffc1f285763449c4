/- Raw poses made right. -/
import Derived.Test.YteebbpioffdncaaGreatEBBack0
import Derived.Test.YteebbpioffdncaaGreatEBBack8
import Derived.Test.YteebbpioffdncaaGreatEBBack11
set_option maxHeartbeats 8000000
set_option maxRecDepth 100000
set_option linter.unusedVariables false
namespace Go.Proofs.YteebbpioffdncaaGreat
open Go.Calls renaming mono -> JA
open Go.Region renaming binds -> JC
open Go renaming execOp -> JD
open Go.World renaming size_alloc -> JE
open Tryz
open Go.Value renaming int -> J
open Go.IntKind renaming i64 -> Y
section
open Go.RowKit Go.Shelf Fx
theorem Jo6 (c n:Int) (w:World) (hc:-9223372036854775808 <= c/\c <= 9223372036854775807) (hn:0 < n) (hn':n <= 9223372036854775807) :
  Calls Tryz.prog 128 #[J Y c,J Y n] w fun e w'=>e = .returned (J Y (Jbg c n))/\w' = w:=by
 unfold Jbg
 by_cases h:c < 0
 ·have hb:0 <= -(c + 1):=by omega
  have hb':-(c + 1) <= 9223372036854775807:=by omega
  have hz:(n == 0) = false:=beq_eq_false_iff_ne.2 (by omega)
  rw [if_pos h]
  go_enter func128,ntmps128
  go_wp2
  go_ret
  have e:(c + 1).tmod n = -(-(c + 1) % n):=by
   rw [<- Int.tmod_eq_emod_of_nonneg hb,Int.neg_tmod,Int.neg_neg]
  exact ⟨by rw [e,Int.neg_neg];rfl,rfl⟩
 ·have hz:(n == 0) = false:=beq_eq_false_iff_ne.2 (by omega)
  rw [if_neg h]
  go_enter func128,ntmps128
  go_wp2
  go_ret
  exact ⟨rfl,rfl⟩
def Jaf (n m:Int):Int:=Jbg n (2 * m + 1) - m
theorem Ja2 (n:Int) {m:Int} (hm:0 <= m):-m <= Jaf n m/\Jaf n m <= m:=by
 have h1:=Jbt n (n:=2 * m + 1) (by omega)
 have h2:=Jbs n (n:=2 * m + 1) (by omega)
 unfold Jaf;omega
theorem Jcg (n m:Int) (w:World) (hn:-9223372036854775808 <= n/\n <= 9223372036854775807) (hm:0 <= m/\m <= 4611686018427387903) :
  Calls Tryz.prog 85 #[J Y n,J Y m] w fun e w'=>e = .returned (J Y (Jaf n m))/\w' = w:=by
 have HP:Hid _:=fun w'=>Jo6 n (2 * m + 1) w' hn (by omega) (by omega)
 have h1:=Jbt n (n:=2 * m + 1) (by omega)
 have h2:=Jbs n (n:=2 * m + 1) (by omega)
 unfold Jaf
 generalize Jbg n (2 * m + 1) = pz at *
 have e1:IntKind.i64.wrap (2 * m) = 2 * m:=by rw [IntKind.wrap_i64];omega
 have e2:IntKind.i64.wrap (2 * m + 1) = 2 * m + 1:=by rw [IntKind.wrap_i64];omega
 have e3:IntKind.i64.wrap (pz - m) = pz - m:=by rw [IntKind.wrap_i64];omega
 go_enter func85,ntmps85
 go_wp2_with (fail)
 refine JA (HP.out _) ?_
 rintro e w' ⟨rfl,rfl⟩
 go_wp2_with (fail)
 go_ret
 exact ⟨rfl,rfl⟩
def Q4.v (q:Q4):Value:=.agg #[J Y q.w,J Y q.x,J Y q.y,J Y q.z]
def Jd3 (q:Q4):Int:=(Jae [q.w,q.x,q.y,q.z]).getD 0
def Jd1 (q:Q4):Bool:=Jw q.w q.x q.y q.z
def Jc6 (q:Q4):Q4:=⟨cond (Jd1 q) 0 ((Ju q.w 4294967296 (Jd3 q)).getD 0),cond (Jd1 q) 0 ((Ju q.x 4294967296 (Jd3 q)).getD 0),cond (Jd1 q) 0 ((Ju q.y 4294967296 (Jd3 q)).getD 0),cond (Jd1 q) 0 ((Ju q.z 4294967296 (Jd3 q)).getD 0)⟩
theorem Jmg (b off:Nat) (f:Bool) (q:Q4) (W:World) (hc:W.cell? ⟨b,off,none⟩ = some (.bool f)) (hf:W.frozen? ⟨b,off,none⟩ = false) :
  Calls Tryz.prog 84 #[.pointer (some ⟨b,off,none⟩),q.v] W fun e W'=>e = .returned (Jc6 q).v/\Hid (After ⟨b,off,none⟩ (f || Jd1 q) W W'):=by
 refine JA (Jlk b off f q.w q.x q.y q.z W hc hf) ?_
 rintro e W' ⟨v0,v1,v2,v3,g,rfl,SS,A⟩
 obtain ⟨rfl,rfl,rfl,rfl,rfl⟩:=SS.out
 exact ⟨rfl,A⟩
theorem Jo0 {q:Q4} (h:Jd1 q = false):WM.Whole (Jc6 q).w (Jc6 q).x (Jc6 q).y (Jc6 q).z:=by
 have hn:2147483648 <= Jd3 q:=by
  have h9:=h
  unfold Jd1 Jw at h9
  simp only [Bool.or_eq_false_iff,decide_eq_false_iff_not] at h9
  have:=h9.1
  unfold Jd3
  omega
 cases hx:Jae [q.w,q.x,q.y,q.z] with
 | none=>unfold Jd3 at hn;rw [hx] at hn;simp at hn
 | some n =>
  have en:Jd3 q = n:=by unfold Jd3;rw [hx];rfl
  rw [en] at hn
  obtain ⟨a,b,c,d,l,e1,e2,e3,e4,_,_,_,k1,k2,k3,k4,k5,k6⟩:=WM.whole_long hx hn
  unfold Jc6
  rw [h,en,e1,e2,e3,e4]
  exact ⟨k1,k2,k3,k4,k5,k6⟩
theorem Jmh (at0 at1 at2 qa qb_ qc qd:Int) (w0:World) (f0:-9223372036854775808 <= at0/\at0 <= 9223372036854775807) (f1:-9223372036854775808 <= at1/\at1 <= 9223372036854775807) (f2:-9223372036854775808 <= at2/\at2 <= 9223372036854775807) (f3:-9223372036854775808 <= qa/\qa <= 9223372036854775807) (f4:-9223372036854775808 <= qb_/\qb_ <= 9223372036854775807) (f5:-9223372036854775808 <= qc/\qc <= 9223372036854775807) (f6:-9223372036854775808 <= qd/\qd <= 9223372036854775807) :
  Calls Tryz.prog 33 #[.agg #[J Y at0,J Y at1,J Y at2,J Y qa,J Y qb_,J Y qc,J Y qd]] w0 fun e W=>∃ (t:Pt) (q:Q4),e = .returned (Jnt t q)/\t.inB 4398046511104 = true/\WM.Whole q.w q.x q.y q.z/\Below w0.heap.size w0 W:=by
 have HP0:Hid _:=fun w'=>Jcg qa 1099511627776 w' f3 (by decide)
 have HP1:Hid _:=fun w'=>Jcg qb_ 1099511627776 w' f4 (by decide)
 have HP2:Hid _:=fun w'=>Jcg qc 1099511627776 w' f5 (by decide)
 have HP3:Hid _:=fun w'=>Jcg qd 1099511627776 w' f6 (by decide)
 have HA0:Hid _:=fun w'=>Jcg at0 4398046511104 w' f0 (by decide)
 have HA1:Hid _:=fun w'=>Jcg at1 4398046511104 w' f1 (by decide)
 have HA2:Hid _:=fun w'=>Jcg at2 4398046511104 w' f2 (by decide)
 have HT:Hid (Pt.inB ⟨Jaf at0 4398046511104,Jaf at1 4398046511104,Jaf at2 4398046511104⟩ 4398046511104 = true):=(Pt.inB_iff _ _).2 ⟨Ja2 _ (by decide),Ja2 _ (by decide),Ja2 _ (by decide)⟩
 generalize Jaf at0 4398046511104 = ta at *
 generalize Jaf at1 4398046511104 = tb at *
 generalize Jaf at2 4398046511104 = tc at *
 generalize Jaf qa 1099511627776 = pw at *
 generalize Jaf qb_ 1099511627776 = px at *
 generalize Jaf qc 1099511627776 = py at *
 generalize Jaf qd 1099511627776 = pz at *
 have HW:Hid _:=fun (b:Nat) (w:World) (f:Bool)=>Jmg b 0 f ⟨pw,px,py,pz⟩ w
 have HI:Hid (Jd1 ⟨pw,px,py,pz⟩ = false->WM.Whole (Jc6 ⟨pw,px,py,pz⟩).w (Jc6 ⟨pw,px,py,pz⟩).x (Jc6 ⟨pw,px,py,pz⟩).y (Jc6 ⟨pw,px,py,pz⟩).z):=Jo0
 generalize Jc6 ⟨pw,px,py,pz⟩ = vq at *
 generalize Jd1 ⟨pw,px,py,pz⟩ = bd at *
 obtain ⟨vw,vx,vy,vz⟩:=vq
 unfold Q4.v at HW
 dsimp only at HW HI
 clear f0 f1 f2 f3 f4 f5 f6
 go_enter func33,ntmps33
 go_upto_region 2 with fail
 obtain ⟨V,hV⟩:∃ V:World,V = ((w0.alloc (.cells #[J Y at0,J Y at1,J Y at2,J Y qa,J Y qb_,J Y qc,J Y qd] 31)).alloc (.cells #[J Y 0,J Y 0,J Y 0,J Y 0,J Y 0,J Y 0,J Y 0] 34)).alloc (.cells #[.bool false] 53):=⟨_,rfl⟩
 obtain ⟨rb,hrb⟩:∃ b,b = w0.heap.size:=⟨_,rfl⟩
 obtain ⟨ob,hob'⟩:∃ b,b = w0.heap.size + 1:=⟨_,rfl⟩
 obtain ⟨wb,hwb'⟩:∃ b,b = w0.heap.size + 1 + 1:=⟨_,rfl⟩
 have hBV:Hid (Below w0.heap.size w0 V):=by show Below _ _ _;rw [hV];exact Jf (Jf (Jb _ _) (Jb _ _)) (Jb _ _)
 have B1:Hid (Cells V rb [J Y at0,J Y at1,J Y at2,J Y qa,J Y qb_,J Y qc,J Y qd]):=by show Cells _ _ _;rw [hV,hrb];exact ((Cells.new w0 [J Y at0,J Y at1,J Y at2,J Y qa,J Y qb_,J Y qc,J Y qd] _).step (Jb _ _)).step (Jb _ _)
 have B3:Hid (Cells V ob [J Y 0,J Y 0,J Y 0,J Y 0,J Y 0,J Y 0,J Y 0]):=by show Cells _ _ _;rw [hV,hob'];have h9:=(Cells.new (w0.alloc (.cells #[J Y at0,J Y at1,J Y at2,J Y qa,J Y qb_,J Y qc,J Y qd] 31)) [J Y 0,J Y 0,J Y 0,J Y 0,J Y 0,J Y 0,J Y 0] 34).step (Jb _ (.cells #[.bool false] 53));rw [JE] at h9;exact h9
 have B2:Hid (Cells V wb [.bool false]):=by show Cells _ _ _;rw [hV,hwb'];have h9:=Cells.new ((w0.alloc (.cells #[J Y at0,J Y at1,J Y at2,J Y qa,J Y qb_,J Y qc,J Y qd] 31)).alloc (.cells #[J Y 0,J Y 0,J Y 0,J Y 0,J Y 0,J Y 0,J Y 0] 34)) [.bool false] 53;rw [JE,JE] at h9;exact h9
 have hVs:V.heap.size = w0.heap.size + 3:=by rw [hV];simp
 rw [<- hV,<- hwb',<- hob',<- hrb]
 have hwb:w0.heap.size <= wb:=by omega
 have hob:w0.heap.size <= ob:=by omega
 have hrw:rb ≠ wb:=by omega
 have how_:ob ≠ wb:=by omega
 have hro:rb ≠ ob:=by omega
 have hwV:wb < V.heap.size:=by omega
 have hrV:rb < V.heap.size:=by omega
 have hoV:ob < V.heap.size:=by omega
 clear hV hrb hob' hwb'
 have HW:Hid _:=HW.out wb
 go_cut [4] from 5 (fun s4 wx=>∃ b3:Nat,s4 = .pointer (some ⟨b3,0,none⟩)/\Below w0.heap.size w0 wx/\Cells wx rb [J Y at0,J Y at1,J Y at2,J Y qa,J Y qb_,J Y qc,J Y qd]/\Cells wx ob [J Y 0,J Y 0,J Y 0,J Y 0,J Y 0,J Y 0,J Y 0]/\Cells wx b3 [J Y vw,J Y vx,J Y vy,J Y vz]/\w0.heap.size <= b3/\rb ≠ b3/\ob ≠ b3/\wx.cell? ⟨wb,0,none⟩ = some (.bool bd))
 case first =>
  refine RV.rs [.some (.pointer (some ⟨wb,0,none⟩)),.some (.pointer (some ⟨rb,3,none⟩)),.some (.pointer (some ⟨rb,3,none⟩)),.some (J Y qa),.some (J Y pw),.some (.pointer (some ⟨rb,3,none⟩)),.some (.pointer (some ⟨rb,4,none⟩)),.some (J Y qb_),.some (J Y px),.some (.pointer (some ⟨rb,3,none⟩)),.some (.pointer (some ⟨rb,5,none⟩)),.some (J Y qc),.some (J Y py),.some (.pointer (some ⟨rb,3,none⟩)),.some (.pointer (some ⟨rb,6,none⟩)),.some (J Y qd),.some (J Y pz),.some (.agg #[J Y pw,J Y px,J Y py,J Y pz]),.some (.agg #[J Y vw,J Y vx,J Y vy,J Y vz]),none,none] [8,9,10,11,12,13,14,15,16,17,18,19,20,21,22,23,24,25,26,5,0] [(1,.pointer (some ⟨rb,0,none⟩)),(3,.pointer (some ⟨wb,0,none⟩))] (fun γ L w=>Below w0.heap.size w0 w/\Cells w rb [J Y at0,J Y at1,J Y at2,J Y qa,J Y qb_,J Y qc,J Y qd]/\Cells w wb [.bool (L 18 && bd)]/\Cells w ob [J Y 0,J Y 0,J Y 0,J Y 0,J Y 0,J Y 0,J Y 0]/\RV.Pend V 29 19 20 #[J Y vw,J Y vx,J Y vy,J Y vz] γ L w/\V.heap.size <= w.heap.size) ⟨rfl,rfl,trivial⟩ ?_ ?_ ?_
  ·have b9:Below V.heap.size V V.drew:=(Below.refl _ _).drew;exact ⟨Jf hBV.out b9,B1.out.step b9,B2.out.step b9,B3.out.step b9,RV.Pend.start rfl,Nat.le_refl _⟩
  ·intro D WA Z hD hWA hZ T
   simp only [RV.Outs,RV.Slots,Nat.reduceAdd] at T
   iterate 4 first
    | (refine RV.cc _ (RV.pu T (fun γ v L w hl h=>⟨h.1,h.2.1,by rw [RV.mn (L:=L) (i:=_) (j:=18) (by decide)];exact h.2.2.1,h.2.2.2.1,h.2.2.2.2.1.other v (by decide) (by decide),h.2.2.2.2.2⟩) (fun γ L a w hH hl h9 k9=>⟨_,?_,rfl⟩)) ?_;· simp [JD,go_sem,h9])
    | (refine RV.cc _ (RV.pu T (fun γ v L w hl h=>⟨h.1,h.2.1,by rw [RV.mn (L:=L) (i:=_) (j:=18) (by decide)];exact h.2.2.1,h.2.2.2.1,h.2.2.2.2.1.other v (by decide) (by decide),h.2.2.2.2.2⟩) (fun γ L a w hH hl h9 k9=>⟨_,?_,rfl⟩)) ?_;· simp [JC] at k9;simp [JD,go_sem,h9,k9])
    | (refine RV.cc _ (RV.pu T (fun γ v L w hl h=>⟨h.1,h.2.1,by rw [RV.mn (L:=L) (i:=_) (j:=18) (by decide)];exact h.2.2.1,h.2.2.2.1,h.2.2.2.2.1.other v (by decide) (by decide),h.2.2.2.2.2⟩) (fun γ L a w hH hl h9 k9=>⟨_,?_,rfl⟩)) ?_;· have wz9:=(hH.glob.2.1 3 _ rfl).1;simp [JC] at k9;simp [JD,go_sem,h9,k9,wz9])
   refine RV.cc _ (RV.dc (fun γ L a w hH hl hA=>by have h9:=T γ L a w hH;have k9:=hA;simp [JC] at k9;refine ⟨85,#[J Y qa,J Y 1099511627776],by simp [go_sem,h9,k9],JA (HP0.out w) ?_⟩;rintro e w2 ⟨rfl,rfl⟩;exact ⟨_,rfl,rfl,fun j v _ h=>h.keep _,hH.glob.1,hH.glob.2.1,by rw [RV.mn (L:=L) (i:=4) (j:=18) (by decide)];exact hH.glob.2.2.1,hH.glob.2.2.2.1,hH.glob.2.2.2.2.1.other _ (by decide) (by decide),hH.glob.2.2.2.2.2⟩)) ?_
   iterate 3 first
    | (refine RV.cc _ (RV.pu T (fun γ v L w hl h=>⟨h.1,h.2.1,by rw [RV.mn (L:=L) (i:=_) (j:=18) (by decide)];exact h.2.2.1,h.2.2.2.1,h.2.2.2.2.1.other v (by decide) (by decide),h.2.2.2.2.2⟩) (fun γ L a w hH hl h9 k9=>⟨_,?_,rfl⟩)) ?_;· simp [JD,go_sem,h9])
    | (refine RV.cc _ (RV.pu T (fun γ v L w hl h=>⟨h.1,h.2.1,by rw [RV.mn (L:=L) (i:=_) (j:=18) (by decide)];exact h.2.2.1,h.2.2.2.1,h.2.2.2.2.1.other v (by decide) (by decide),h.2.2.2.2.2⟩) (fun γ L a w hH hl h9 k9=>⟨_,?_,rfl⟩)) ?_;· simp [JC] at k9;simp [JD,go_sem,h9,k9])
    | (refine RV.cc _ (RV.pu T (fun γ v L w hl h=>⟨h.1,h.2.1,by rw [RV.mn (L:=L) (i:=_) (j:=18) (by decide)];exact h.2.2.1,h.2.2.2.1,h.2.2.2.2.1.other v (by decide) (by decide),h.2.2.2.2.2⟩) (fun γ L a w hH hl h9 k9=>⟨_,?_,rfl⟩)) ?_;· have wz9:=(hH.glob.2.1 4 _ rfl).1;simp [JC] at k9;simp [JD,go_sem,h9,k9,wz9])
   refine RV.cc _ (RV.dc (fun γ L a w hH hl hA=>by have h9:=T γ L a w hH;have k9:=hA;simp [JC] at k9;refine ⟨85,#[J Y qb_,J Y 1099511627776],by simp [go_sem,h9,k9],JA (HP1.out w) ?_⟩;rintro e w2 ⟨rfl,rfl⟩;exact ⟨_,rfl,rfl,fun j v _ h=>h.keep _,hH.glob.1,hH.glob.2.1,by rw [RV.mn (L:=L) (i:=8) (j:=18) (by decide)];exact hH.glob.2.2.1,hH.glob.2.2.2.1,hH.glob.2.2.2.2.1.other _ (by decide) (by decide),hH.glob.2.2.2.2.2⟩)) ?_
   iterate 3 first
    | (refine RV.cc _ (RV.pu T (fun γ v L w hl h=>⟨h.1,h.2.1,by rw [RV.mn (L:=L) (i:=_) (j:=18) (by decide)];exact h.2.2.1,h.2.2.2.1,h.2.2.2.2.1.other v (by decide) (by decide),h.2.2.2.2.2⟩) (fun γ L a w hH hl h9 k9=>⟨_,?_,rfl⟩)) ?_;· simp [JD,go_sem,h9])
    | (refine RV.cc _ (RV.pu T (fun γ v L w hl h=>⟨h.1,h.2.1,by rw [RV.mn (L:=L) (i:=_) (j:=18) (by decide)];exact h.2.2.1,h.2.2.2.1,h.2.2.2.2.1.other v (by decide) (by decide),h.2.2.2.2.2⟩) (fun γ L a w hH hl h9 k9=>⟨_,?_,rfl⟩)) ?_;· simp [JC] at k9;simp [JD,go_sem,h9,k9])
    | (refine RV.cc _ (RV.pu T (fun γ v L w hl h=>⟨h.1,h.2.1,by rw [RV.mn (L:=L) (i:=_) (j:=18) (by decide)];exact h.2.2.1,h.2.2.2.1,h.2.2.2.2.1.other v (by decide) (by decide),h.2.2.2.2.2⟩) (fun γ L a w hH hl h9 k9=>⟨_,?_,rfl⟩)) ?_;· have wz9:=(hH.glob.2.1 5 _ rfl).1;simp [JC] at k9;simp [JD,go_sem,h9,k9,wz9])
   refine RV.cc _ (RV.dc (fun γ L a w hH hl hA=>by have h9:=T γ L a w hH;have k9:=hA;simp [JC] at k9;refine ⟨85,#[J Y qc,J Y 1099511627776],by simp [go_sem,h9,k9],JA (HP2.out w) ?_⟩;rintro e w2 ⟨rfl,rfl⟩;exact ⟨_,rfl,rfl,fun j v _ h=>h.keep _,hH.glob.1,hH.glob.2.1,by rw [RV.mn (L:=L) (i:=12) (j:=18) (by decide)];exact hH.glob.2.2.1,hH.glob.2.2.2.1,hH.glob.2.2.2.2.1.other _ (by decide) (by decide),hH.glob.2.2.2.2.2⟩)) ?_
   iterate 3 first
    | (refine RV.cc _ (RV.pu T (fun γ v L w hl h=>⟨h.1,h.2.1,by rw [RV.mn (L:=L) (i:=_) (j:=18) (by decide)];exact h.2.2.1,h.2.2.2.1,h.2.2.2.2.1.other v (by decide) (by decide),h.2.2.2.2.2⟩) (fun γ L a w hH hl h9 k9=>⟨_,?_,rfl⟩)) ?_;· simp [JD,go_sem,h9])
    | (refine RV.cc _ (RV.pu T (fun γ v L w hl h=>⟨h.1,h.2.1,by rw [RV.mn (L:=L) (i:=_) (j:=18) (by decide)];exact h.2.2.1,h.2.2.2.1,h.2.2.2.2.1.other v (by decide) (by decide),h.2.2.2.2.2⟩) (fun γ L a w hH hl h9 k9=>⟨_,?_,rfl⟩)) ?_;· simp [JC] at k9;simp [JD,go_sem,h9,k9])
    | (refine RV.cc _ (RV.pu T (fun γ v L w hl h=>⟨h.1,h.2.1,by rw [RV.mn (L:=L) (i:=_) (j:=18) (by decide)];exact h.2.2.1,h.2.2.2.1,h.2.2.2.2.1.other v (by decide) (by decide),h.2.2.2.2.2⟩) (fun γ L a w hH hl h9 k9=>⟨_,?_,rfl⟩)) ?_;· have wz9:=(hH.glob.2.1 6 _ rfl).1;simp [JC] at k9;simp [JD,go_sem,h9,k9,wz9])
   refine RV.cc _ (RV.dc (fun γ L a w hH hl hA=>by have h9:=T γ L a w hH;have k9:=hA;simp [JC] at k9;refine ⟨85,#[J Y qd,J Y 1099511627776],by simp [go_sem,h9,k9],JA (HP3.out w) ?_⟩;rintro e w2 ⟨rfl,rfl⟩;exact ⟨_,rfl,rfl,fun j v _ h=>h.keep _,hH.glob.1,hH.glob.2.1,by rw [RV.mn (L:=L) (i:=16) (j:=18) (by decide)];exact hH.glob.2.2.1,hH.glob.2.2.2.1,hH.glob.2.2.2.2.1.other _ (by decide) (by decide),hH.glob.2.2.2.2.2⟩)) ?_
   (refine RV.cc _ (RV.pu T (fun γ v L w hl h=>⟨h.1,h.2.1,by rw [RV.mn (L:=L) (i:=_) (j:=18) (by decide)];exact h.2.2.1,h.2.2.2.1,h.2.2.2.2.1.other v (by decide) (by decide),h.2.2.2.2.2⟩) (fun γ L a w hH hl h9 k9=>⟨_,?_,rfl⟩)) ?_;· simp [JC] at k9;simp [JD,go_sem,h9,k9])
   refine RV.cc _ (RV.dc (fun γ L a w hH hl hA=>by have h9:=T γ L a w hH;have k9:=hA;simp [JC] at k9;have hG:=hH.glob;rw [hl] at hG;have wz:=hG.2.2.1 0 _ rfl;refine ⟨84,#[.pointer (some ⟨wb,0,none⟩),.agg #[J Y pw,J Y px,J Y py,J Y pz]],by simp [go_sem,h9,k9],JA (HW.out w _ wz.1 wz.2) ?_⟩;rintro e w2 ⟨rfl,A⟩;refine ⟨_,rfl,rfl,fun j v _ h=>h.keep _,?_⟩;have A9:=A.out;exact ⟨A9.on hG.1 hwb,hG.2.1.beside A9 hrw,by rw [RV.more_self];exact Cells.after hG.2.2.1 A9,hG.2.2.2.1.beside A9 how_,(hG.2.2.2.2.1.after A9 hwV).other _ (by decide) (by decide),Nat.le_trans hG.2.2.2.2.2 A9.size⟩)) ?_
   refine RV.cc _ (RV.does_step (fun γ L a w hH hl hA=>by have hG:=hH.glob;have h20:L 20 = false:=RV.ny hH (RV.wt (j:=20) (i:=19) hWA (by kernel_rfl)) hl;exact ⟨.pointer (some ⟨w.heap.size,0,none⟩),w.alloc (.cells #[J Y 0,J Y 0,J Y 0,J Y 0] 29),by simp [JD,go_sem],trivial,fun j v _ h=>h.keep _,hG.1.alloc hG.1.size _,hG.2.1.step (Jb _ _),by rw [RV.mn (L:=L) (i:=19) (j:=18) (by decide)];exact hG.2.2.1.step (Jb _ _),hG.2.2.2.1.step (Jb _ _),RV.Pend.made _ rfl hG.2.2.2.2.2 h20 (by decide),by rw [JE];have h8:=hG.2.2.2.2.2;omega⟩)) ?_
   refine RV.cc _ (RV.does_store (fun γ L a w hH hl hA=>by have h9:=T γ L a w hH;have k9:=hA;simp [JC] at k9;have l0:L 19 = true:=hA ⟨19,.data⟩ (by simp) rfl;have e0:=hH.slot 19 4 (by rw [<- hD];rfl) l0;have hG:=hH.glob;obtain ⟨b,cs,hb1,hb2,hb3,hb4,_⟩:=hG.2.2.2.2.1 l0;rw [hb1] at e0;obtain ⟨u0,u1,u2,u3,rfl⟩:=Jt9 hb4;have wz0:w.cell? ⟨b,0,none⟩ = some u0:=(by simp [World.cell?,hb3]);have wz1:w.cell? ⟨b,1,none⟩ = some u1:=(by simp [World.cell?,hb3]);have wz2:w.cell? ⟨b,2,none⟩ = some u2:=(by simp [World.cell?,hb3]);have wz3:w.cell? ⟨b,3,none⟩ = some u3:=(by simp [World.cell?,hb3]);have zf:∀ o,w.frozen? ⟨b,o,none⟩ = false:=fun o=>(by simp [World.frozen?,hb3]);have n1:rb ≠ b:=(by omega);have n2:wb ≠ b:=(by omega);have n3:ob ≠ b:=(by omega);have n4:w0.heap.size <= b:=(by omega);exact ⟨((((w.setCell ⟨b,0,none⟩ (J Y vw)).setCell ⟨b,1,none⟩ (J Y vx)).setCell ⟨b,2,none⟩ (J Y vy)).setCell ⟨b,3,none⟩ (J Y vz)),by simp [JD,go_sem,e0,wz0,wz1,wz2,wz3,zf,h9,k9],trivial,fun j v _ h=>h.keep _,((((hG.1.setCell n4 _).setCell n4 _).setCell n4 _).setCell n4 _),((((hG.2.1.apart n1 0 _).apart n1 1 _).apart n1 2 _).apart n1 3 _),by rw [RV.mn (L:=L) (i:=20) (j:=18) (by decide)];exact ((((hG.2.2.1.apart n2 0 _).apart n2 1 _).apart n2 2 _).apart n2 3 _),((((hG.2.2.2.1.apart n3 0 _).apart n3 1 _).apart n3 2 _).apart n3 3 _),RV.Pend.filled hb1 hb2 (by have q0:=Go.heap_setCell_same w b 0 _ _ (J Y vw) hb3;have q1:=Go.heap_setCell_same _ b 1 _ _ (J Y vx) q0;have q2:=Go.heap_setCell_same _ b 2 _ _ (J Y vy) q1;have q3:=Go.heap_setCell_same _ b 3 _ _ (J Y vz) q2;simpa using q3) (by decide) _,by have h8:=hG.2.2.2.2.2;simpa [World.setCell] using h8⟩)) ?_
   exact RV.AllDo.nil
  ·intro γ w5 L9 hL hI9 hG9
   have hG:=hG9
   rw [hL 18 (by decide)] at hG
   obtain ⟨b3,cs,hb1,hb2,hb3,_,hb5⟩:=hG.2.2.2.2.1 (hL 19 (by decide))
   rw [hb5 (hL 20 (by decide))] at hb3
   clear hL hb5 hI9 hG9
   simp only [RV.putL,Act.put,List.setIfInBounds_toArray,List.set_cons_zero,List.set_cons_succ,Nat.reduceAdd]
   rw [hb1]
   have C3:Cells w5 b3 [J Y vw,J Y vx,J Y vy,J Y vz]:=fun i v e=>⟨by simp [World.cell?,hb3];exact e,by simp [World.frozen?,hb3]⟩
   have HH:Hid (Below w0.heap.size w0 w5/\Cells w5 rb [J Y at0,J Y at1,J Y at2,J Y qa,J Y qb_,J Y qc,J Y qd]/\Cells w5 ob [J Y 0,J Y 0,J Y 0,J Y 0,J Y 0,J Y 0,J Y 0]):=⟨hG.1,hG.2.1,hG.2.2.2.1⟩
   have fl:=(hG.2.2.1 0 _ rfl).1
   have nrb:rb ≠ b3:=by omega
   have nob:ob ≠ b3:=by omega
   have nb4:w0.heap.size <= b3:=by omega
   clear hG hb1 hb3
   go_wp2_with (fail)
   go_meet
   case rel=>exact ⟨b3,rfl,HH.out.1,HH.out.2.1,HH.out.2.2,C3,nb4,nrb,nob,by simpa using fl⟩
 case rest =>
  obtain ⟨b3,rfl,k1,k2,k3,k4,nb4,nrb,nob,fl⟩:=hcut
  have hbo:b3 ≠ ob:=fun e=>nob e.symm
  have H1:Hid _:=And.intro k1 (And.intro k2 (And.intro k3 k4))
  clear k1 k2 k3 k4 B1 B2 B3 hBV HP0 HP1 HP2 HP3 HW
  go_upto_if 29 with fail
  go_cut [] from 26 (fun wx=>∃ ua ub uc ud:Int,Hid (WM.Whole ua ub uc ud)/\Below w0.heap.size w0 wx/\Cells wx rb [J Y at0,J Y at1,J Y at2,J Y qa,J Y qb_,J Y qc,J Y qd]/\Cells wx ob [J Y 0,J Y 0,J Y 0,J Y 0,J Y 0,J Y 0,J Y 0]/\Cells wx b3 [J Y ua,J Y ub,J Y uc,J Y ud])
  case first =>
   cases bd with
   | false =>
    go_wp2_with (fail)
    go_meet
    case rel=>exact ⟨vw,vx,vy,vz,(by first | exact HI.out rfl | exact HI.out trivial),H1.out.1,H1.out.2.1,H1.out.2.2.1,H1.out.2.2.2⟩
   | true =>
    obtain ⟨k1,k2,k3,k4⟩:=H1.out
    have HN:Hid (Below w0.heap.size w0 (set4 wc b3 (J Y 4294967296) (J Y 0) (J Y 0) (J Y 0))/\Cells (set4 wc b3 (J Y 4294967296) (J Y 0) (J Y 0) (J Y 0)) rb [J Y at0,J Y at1,J Y at2,J Y qa,J Y qb_,J Y qc,J Y qd]/\Cells (set4 wc b3 (J Y 4294967296) (J Y 0) (J Y 0) (J Y 0)) ob [J Y 0,J Y 0,J Y 0,J Y 0,J Y 0,J Y 0,J Y 0]/\Cells (set4 wc b3 (J Y 4294967296) (J Y 0) (J Y 0) (J Y 0)) b3 [J Y 4294967296,J Y 0,J Y 0,J Y 0]):=
     ⟨Jfj k1 nb4 _ _ _ _,((((Cells.apart k2 nrb 0 _).apart nrb 1 _).apart nrb 2 _).apart nrb 3 _),((((Cells.apart k3 nob 0 _).apart nob 1 _).apart nob 2 _).apart nob 3 _),Cells.set4 k4 _ _ _ _⟩
    obtain ⟨z0,z0f⟩:=k4 0 _ rfl
    obtain ⟨z1,z1f⟩:=k4 1 _ rfl
    obtain ⟨z2,z2f⟩:=k4 2 _ rfl
    obtain ⟨z3,z3f⟩:=k4 3 _ rfl
    unfold set4 at HN
    clear k1 k2 k3 k4
    go_wp2_with (fail)
    go_meet
    case rel=>exact ⟨4294967296,0,0,0,(by unfold WM.Whole;decide:WM.Whole 4294967296 0 0 0),HN.out.1,HN.out.2.1,HN.out.2.2.1,HN.out.2.2.2⟩
  case rest =>
   obtain ⟨ua,ub,uc,ud,HQ9,k1,k2,k3,k4⟩:=hcut
   clear H1 fl HI
   go_upto_region 5 with fail
   obtain ⟨X,hX⟩:∃ X:World,X = wc:=⟨_,rfl⟩
   rw [<- hX] at k1 k2 k3 k4 ⊢
   clear hX
   refine RV.rs [.some (.pointer (some ⟨rb,0,none⟩)),.some (.pointer (some ⟨rb,0,none⟩)),.some (J Y at0),.some (J Y ta),.some (.pointer (some ⟨rb,0,none⟩)),.some (.pointer (some ⟨rb,1,none⟩)),.some (J Y at1),.some (J Y tb),.some (.pointer (some ⟨rb,0,none⟩)),.some (.pointer (some ⟨rb,2,none⟩)),.some (J Y at2),.some (J Y tc),.some (.agg #[J Y ta,J Y tb,J Y tc]),.some (.agg #[J Y ua,J Y ub,J Y uc,J Y ud]),.some (.agg #[J Y ta,J Y tb,J Y tc,J Y ua,J Y ub,J Y uc,J Y ud]),none] [32,33,34,35,36,37,38,39,40,41,42,43,44,45,46,0] [(1,.pointer (some ⟨rb,0,none⟩)),(2,.pointer (some ⟨ob,0,none⟩)),(4,.pointer (some ⟨b3,0,none⟩))] (fun γ L w=>Below w0.heap.size w0 w/\Cells w rb [J Y at0,J Y at1,J Y at2,J Y qa,J Y qb_,J Y qc,J Y qd]/\Cells w b3 [J Y ua,J Y ub,J Y uc,J Y ud]/\Cells w ob (cond (L 15) [J Y ta,J Y tb,J Y tc,J Y ua,J Y ub,J Y uc,J Y ud] [J Y 0,J Y 0,J Y 0,J Y 0,J Y 0,J Y 0,J Y 0])) ⟨rfl,rfl,rfl,trivial⟩ ?_ ?_ ?_
   ·have b9:Below X.heap.size X X.drew:=(Below.refl _ _).drew;exact ⟨Jf k1 b9,Cells.step k2 b9,Cells.step k4 b9,Cells.step k3 b9⟩
   ·intro D WA Z hD hWA hZ T
    simp only [RV.Outs,RV.Slots,Nat.reduceAdd] at T
    iterate 3 first
     | (refine RV.cc _ (RV.pu T (fun γ v L w hl h=>⟨h.1,h.2.1,h.2.2.1,by rw [RV.mn (L:=L) (i:=_) (j:=15) (by decide)];exact h.2.2.2⟩) (fun γ L a w hH hl h9 k9=>⟨_,?_,rfl⟩)) ?_;· simp [JD,go_sem,h9])
     | (refine RV.cc _ (RV.pu T (fun γ v L w hl h=>⟨h.1,h.2.1,h.2.2.1,by rw [RV.mn (L:=L) (i:=_) (j:=15) (by decide)];exact h.2.2.2⟩) (fun γ L a w hH hl h9 k9=>⟨_,?_,rfl⟩)) ?_;· simp [JC] at k9;simp [JD,go_sem,h9,k9])
     | (refine RV.cc _ (RV.pu T (fun γ v L w hl h=>⟨h.1,h.2.1,h.2.2.1,by rw [RV.mn (L:=L) (i:=_) (j:=15) (by decide)];exact h.2.2.2⟩) (fun γ L a w hH hl h9 k9=>⟨_,?_,rfl⟩)) ?_;· have wz9:=(hH.glob.2.1 0 _ rfl).1;simp [JC] at k9;simp [JD,go_sem,h9,k9,wz9])
    refine RV.cc _ (RV.dc (fun γ L a w hH hl hA=>by have h9:=T γ L a w hH;have k9:=hA;simp [JC] at k9;refine ⟨85,#[J Y at0,J Y 4398046511104],by simp [go_sem,h9,k9],JA (HA0.out w) ?_⟩;rintro e w2 ⟨rfl,rfl⟩;exact ⟨_,rfl,rfl,fun j v _ h=>h.keep _,hH.glob.1,hH.glob.2.1,hH.glob.2.2.1,by rw [RV.mn (L:=L) (i:=3) (j:=15) (by decide)];exact hH.glob.2.2.2⟩)) ?_
    iterate 3 first
     | (refine RV.cc _ (RV.pu T (fun γ v L w hl h=>⟨h.1,h.2.1,h.2.2.1,by rw [RV.mn (L:=L) (i:=_) (j:=15) (by decide)];exact h.2.2.2⟩) (fun γ L a w hH hl h9 k9=>⟨_,?_,rfl⟩)) ?_;· simp [JD,go_sem,h9])
     | (refine RV.cc _ (RV.pu T (fun γ v L w hl h=>⟨h.1,h.2.1,h.2.2.1,by rw [RV.mn (L:=L) (i:=_) (j:=15) (by decide)];exact h.2.2.2⟩) (fun γ L a w hH hl h9 k9=>⟨_,?_,rfl⟩)) ?_;· simp [JC] at k9;simp [JD,go_sem,h9,k9])
     | (refine RV.cc _ (RV.pu T (fun γ v L w hl h=>⟨h.1,h.2.1,h.2.2.1,by rw [RV.mn (L:=L) (i:=_) (j:=15) (by decide)];exact h.2.2.2⟩) (fun γ L a w hH hl h9 k9=>⟨_,?_,rfl⟩)) ?_;· have wz9:=(hH.glob.2.1 1 _ rfl).1;simp [JC] at k9;simp [JD,go_sem,h9,k9,wz9])
    refine RV.cc _ (RV.dc (fun γ L a w hH hl hA=>by have h9:=T γ L a w hH;have k9:=hA;simp [JC] at k9;refine ⟨85,#[J Y at1,J Y 4398046511104],by simp [go_sem,h9,k9],JA (HA1.out w) ?_⟩;rintro e w2 ⟨rfl,rfl⟩;exact ⟨_,rfl,rfl,fun j v _ h=>h.keep _,hH.glob.1,hH.glob.2.1,hH.glob.2.2.1,by rw [RV.mn (L:=L) (i:=7) (j:=15) (by decide)];exact hH.glob.2.2.2⟩)) ?_
    iterate 3 first
     | (refine RV.cc _ (RV.pu T (fun γ v L w hl h=>⟨h.1,h.2.1,h.2.2.1,by rw [RV.mn (L:=L) (i:=_) (j:=15) (by decide)];exact h.2.2.2⟩) (fun γ L a w hH hl h9 k9=>⟨_,?_,rfl⟩)) ?_;· simp [JD,go_sem,h9])
     | (refine RV.cc _ (RV.pu T (fun γ v L w hl h=>⟨h.1,h.2.1,h.2.2.1,by rw [RV.mn (L:=L) (i:=_) (j:=15) (by decide)];exact h.2.2.2⟩) (fun γ L a w hH hl h9 k9=>⟨_,?_,rfl⟩)) ?_;· simp [JC] at k9;simp [JD,go_sem,h9,k9])
     | (refine RV.cc _ (RV.pu T (fun γ v L w hl h=>⟨h.1,h.2.1,h.2.2.1,by rw [RV.mn (L:=L) (i:=_) (j:=15) (by decide)];exact h.2.2.2⟩) (fun γ L a w hH hl h9 k9=>⟨_,?_,rfl⟩)) ?_;· have wz9:=(hH.glob.2.1 2 _ rfl).1;simp [JC] at k9;simp [JD,go_sem,h9,k9,wz9])
    refine RV.cc _ (RV.dc (fun γ L a w hH hl hA=>by have h9:=T γ L a w hH;have k9:=hA;simp [JC] at k9;refine ⟨85,#[J Y at2,J Y 4398046511104],by simp [go_sem,h9,k9],JA (HA2.out w) ?_⟩;rintro e w2 ⟨rfl,rfl⟩;exact ⟨_,rfl,rfl,fun j v _ h=>h.keep _,hH.glob.1,hH.glob.2.1,hH.glob.2.2.1,by rw [RV.mn (L:=L) (i:=11) (j:=15) (by decide)];exact hH.glob.2.2.2⟩)) ?_
    iterate 3 first
     | (refine RV.cc _ (RV.pu T (fun γ v L w hl h=>⟨h.1,h.2.1,h.2.2.1,by rw [RV.mn (L:=L) (i:=_) (j:=15) (by decide)];exact h.2.2.2⟩) (fun γ L a w hH hl h9 k9=>⟨_,?_,rfl⟩)) ?_;· have wz0:=(hH.glob.2.2.1 0 _ rfl).1;have wz1:=(hH.glob.2.2.1 1 _ rfl).1;have wz2:=(hH.glob.2.2.1 2 _ rfl).1;have wz3:=(hH.glob.2.2.1 3 _ rfl).1;simp [JD,go_sem,h9,wz0,wz1,wz2,wz3])
     | (refine RV.cc _ (RV.pu T (fun γ v L w hl h=>⟨h.1,h.2.1,h.2.2.1,by rw [RV.mn (L:=L) (i:=_) (j:=15) (by decide)];exact h.2.2.2⟩) (fun γ L a w hH hl h9 k9=>⟨_,?_,rfl⟩)) ?_;· simp [JC] at k9;simp [JD,go_sem,h9,k9])
    refine RV.cc _ (RV.does_store (fun γ L a w hH hl hA=>by have h9:=T γ L a w hH;have k9:=hA;simp [JC] at k9;have hG:=hH.glob;rw [hl] at hG;have wz0:=hG.2.2.2 0 _ rfl;have wz1:=hG.2.2.2 1 _ rfl;have wz2:=hG.2.2.2 2 _ rfl;have wz3:=hG.2.2.2 3 _ rfl;have wz4:=hG.2.2.2 4 _ rfl;have wz5:=hG.2.2.2 5 _ rfl;have wz6:=hG.2.2.2 6 _ rfl;refine ⟨(((((((w.setCell ⟨ob,0,none⟩ (J Y ta)).setCell ⟨ob,1,none⟩ (J Y tb)).setCell ⟨ob,2,none⟩ (J Y tc)).setCell ⟨ob,3,none⟩ (J Y ua)).setCell ⟨ob,4,none⟩ (J Y ub)).setCell ⟨ob,5,none⟩ (J Y uc)).setCell ⟨ob,6,none⟩ (J Y ud)),by simp [JD,go_sem,wz0.1,wz0.2,wz1.1,wz1.2,wz2.1,wz2.2,wz3.1,wz3.2,wz4.1,wz4.2,wz5.1,wz5.2,wz6.1,wz6.2,h9,k9],trivial,fun j v _ h=>h.keep _,(((((((hG.1.setCell hob _).setCell hob _).setCell hob _).setCell hob _).setCell hob _).setCell hob _).setCell hob _),(((((((hG.2.1.apart hro 0 _).apart hro 1 _).apart hro 2 _).apart hro 3 _).apart hro 4 _).apart hro 5 _).apart hro 6 _),(((((((hG.2.2.1.apart hbo 0 _).apart hbo 1 _).apart hbo 2 _).apart hbo 3 _).apart hbo 4 _).apart hbo 5 _).apart hbo 6 _),?_⟩;rw [RV.more_self];exact (Cells.set (Cells.set (Cells.set (Cells.set (Cells.set (Cells.set (Cells.set hG.2.2.2 0 (J Y ta) (by simp)) 1 (J Y tb) (by simp)) 2 (J Y tc) (by simp)) 3 (J Y ua) (by simp)) 4 (J Y ub) (by simp)) 5 (J Y uc) (by simp)) 6 (J Y ud) (by simp)))) ?_
    exact RV.AllDo.nil
   ·intro γ w5 L9 hL hI9 hG9
    have hG:=hG9
    rw [hL 15 (by decide)] at hG
    clear hL hI9 hG9
    simp only [RV.putL,Act.put,List.setIfInBounds_toArray,List.set_cons_zero,List.set_cons_succ]
    have HB5:Hid _:=hG.1
    have C5:Cells w5 ob [J Y ta,J Y tb,J Y tc,J Y ua,J Y ub,J Y uc,J Y ud]:=hG.2.2.2
    have z0_:=(C5 0 _ rfl).1
    have z1_:=(C5 1 _ rfl).1
    have z2_:=(C5 2 _ rfl).1
    have z3_:=(C5 3 _ rfl).1
    have z4_:=(C5 4 _ rfl).1
    have z5_:=(C5 5 _ rfl).1
    have z6_:=(C5 6 _ rfl).1
    clear hG C5
    go_wp2
    exact bodyPost_ret (v:=.agg #[J Y ta,J Y tb,J Y tc,J Y ua,J Y ub,J Y uc,J Y ud]) (by simp [results,results33,go_sem,z0_,z1_,z2_,z3_,z4_,z5_,z6_]) rfl ⟨⟨ta,tb,tc⟩,⟨ua,ub,uc,ud⟩,rfl,HT.out,HQ9.out,HB5.out⟩
end
section
open Go.RowKit Ref Fx
def Jn (p0 p1 p2 p3 q0 q1 q2 q3:Int):Bool:=(((((((false || (sub 0 q1).isNone) || (sub 0 q2).isNone) || (sub 0 q3).isNone) || (dot [p0,p1,p2,p3] [q0,((sub 0 q1).getD 0),((sub 0 q2).getD 0),((sub 0 q3).getD 0)]).isNone) || (dot [p0,p1,p2,p3] [q1,q0,q3,((sub 0 q2).getD 0)]).isNone) || (dot [p0,p1,p2,p3] [q2,((sub 0 q3).getD 0),q0,q1]).isNone) || (dot [p0,p1,p2,p3] [q3,q2,((sub 0 q1).getD 0),q0]).isNone)
def Jba (p0 p1 p2 p3 q0 q1 q2 q3:Int):Int:=(dot [p0,p1,p2,p3] [q0,((sub 0 q1).getD 0),((sub 0 q2).getD 0),((sub 0 q3).getD 0)]).getD 0
def Ja9 (p0 p1 p2 p3 q0 q1 q2 q3:Int):Int:=(dot [p0,p1,p2,p3] [q1,q0,q3,((sub 0 q2).getD 0)]).getD 0
def Jbb (p0 p1 p2 p3 q0 q1 q2 q3:Int):Int:=(dot [p0,p1,p2,p3] [q2,((sub 0 q3).getD 0),q0,q1]).getD 0
def Jbc (p0 p1 p2 p3 q0 q1 q2 q3:Int):Int:=(dot [p0,p1,p2,p3] [q3,q2,((sub 0 q1).getD 0),q0]).getD 0
theorem Ho.lay {W V:World} {p:Addr} {po:Nat} {f g:Bool} {l:List (Addr × Value)} (h:Ho W V p po f g l) (cs:Array Value) (t:TypeId) (k:List (Addr × Value)) (hk:∀ c ∈ k,∃ i:Nat,c.1 = ⟨V.heap.size,i,none⟩/\cs[i]? = some c.2):Ho W (V.alloc (.cells cs t)) p po f g (k ++ l):=by
 have h2:=h.alloc (.cells cs t)
 have hlt:=World.block_lt_of_cell? _ _ h.own
 dsimp only at hlt
 refine ⟨h2.leaves,h2.flag,h2.flagf,h2.own,h2.ownf,fun c hc=>?_,fun c hc=>?_,h2.hp,h2.ho⟩
 ·rcases List.mem_append.1 hc with hc | hc
  ·obtain ⟨i,e,hi⟩:=hk c hc
   rw [e]
   exact ⟨by rw [World.cell?_alloc_at _ _ _ _ rfl];exact hi,by simp [go_sem]⟩
  ·exact h2.fix c hc
 ·rcases List.mem_append.1 hc with hc | hc
  ·obtain ⟨i,e,hi⟩:=hk c hc
   rw [e];show V.heap.size ≠ po;omega
  ·exact h2.far c hc
end
end Go.Proofs.YteebbpioffdncaaGreat
