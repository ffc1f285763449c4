/- Raw poses made right. -/
import Derived.Test.YtlhhmiicpddjoaaGreatSPRight0
import Derived.Test.YtlhhmiicpddjoaaGreatSPRight13
import Derived.Test.YtlhhmiicpddjoaaGreatSPRight14
import Derived.Test.YtlhhmiicpddjoaaGreatSPRight10
import Derived.Test.YtlhhmiicpddjoaaGreatSPRight15
import Derived.Test.YtlhhmiicpddjoaaGreatSPRight11
set_option maxHeartbeats 8000000
set_option maxRecDepth 100000
set_option linter.unusedVariables false
namespace Go.Proofs.YtlhhmiicpddjoaaGreat
section
open Go.RowKit Go.Shelf Fx
theorem pick6_any (c n:Int) (w:World) (hc:-9223372036854775808 <= c/\c <= 9223372036854775807) (hn:0 < n) (hn':n <= 9223372036854775807) :
  Calls Tryz.prog 49 #[.int .i64 c,.int .i64 n] w fun e w'=>e = .returned (.int .i64 (pickZ c n))/\w' = w:=by
 unfold pickZ
 by_cases h:c < 0
 ·have hb:0 <= -(c + 1):=by omega
  have hb':-(c + 1) <= 9223372036854775807:=by omega
  have hz:(n == 0) = false:=beq_eq_false_iff_ne.2 (by omega)
  rw [if_pos h]
  go_enter Tryz.func49,Tryz.ntmps49
  go_wp2
  go_ret
  have e:(c + 1).tmod n = -(-(c + 1) % n):=by
   rw [<- Int.tmod_eq_emod_of_nonneg hb,Int.neg_tmod,Int.neg_neg]
  exact ⟨by rw [e,Int.neg_neg];rfl,rfl⟩
 ·have hz:(n == 0) = false:=beq_eq_false_iff_ne.2 (by omega)
  rw [if_neg h]
  go_enter Tryz.func49,Tryz.ntmps49
  go_wp2
  go_ret
  exact ⟨rfl,rfl⟩
def partZ (n m:Int):Int:=pickZ n (2 * m + 1) - m
theorem partZ_in (n:Int) {m:Int} (hm:0 <= m):-m <= partZ n m/\partZ n m <= m:=by
 have h1:=pickZ_lo n (n:=2 * m + 1) (by omega)
 have h2:=pickZ_hi n (n:=2 * m + 1) (by omega)
 unfold partZ;omega
theorem part6_any (n m:Int) (w:World) (hn:-9223372036854775808 <= n/\n <= 9223372036854775807) (hm:0 <= m/\m <= 4611686018427387903) :
  Calls Tryz.prog 21 #[.int .i64 n,.int .i64 m] w fun e w'=>e = .returned (.int .i64 (partZ n m))/\w' = w:=by
 have HP:Hid _:=fun w'=>pick6_any n (2 * m + 1) w' hn (by omega) (by omega)
 have h1:=pickZ_lo n (n:=2 * m + 1) (by omega)
 have h2:=pickZ_hi n (n:=2 * m + 1) (by omega)
 unfold partZ
 generalize pickZ n (2 * m + 1) = pz at *
 have e1:IntKind.i64.wrap (2 * m) = 2 * m:=by rw [IntKind.wrap_i64];omega
 have e2:IntKind.i64.wrap (2 * m + 1) = 2 * m + 1:=by rw [IntKind.wrap_i64];omega
 have e3:IntKind.i64.wrap (pz - m) = pz - m:=by rw [IntKind.wrap_i64];omega
 go_enter Tryz.func21,Tryz.ntmps21
 go_wp2_with (fail)
 refine Calls.mono (HP.out _) ?_
 rintro e w' ⟨rfl,rfl⟩
 go_wp2_with (fail)
 go_ret
 exact ⟨rfl,rfl⟩
def Q4.v (q:Q4):Value:=.agg #[.int .i64 q.w,.int .i64 q.x,.int .i64 q.y,.int .i64 q.z]
def wholeN (q:Q4):Int:=(norm [q.w,q.x,q.y,q.z]).getD 0
def wholeB (q:Q4):Bool:=wholeBad q.w q.x q.y q.z
def wholeQ (q:Q4):Q4:=⟨cond (wholeB q) 0 ((ratio q.w 4294967296 (wholeN q)).getD 0),cond (wholeB q) 0 ((ratio q.x 4294967296 (wholeN q)).getD 0),cond (wholeB q) 0 ((ratio q.y 4294967296 (wholeN q)).getD 0),cond (wholeB q) 0 ((ratio q.z 4294967296 (wholeN q)).getD 0)⟩
theorem whole6_any (b off:Nat) (f:Bool) (q:Q4) (W:World) (hc:W.cell? ⟨b,off,none⟩ = some (.bool f)) (hf:W.frozen? ⟨b,off,none⟩ = false) :
  Calls Tryz.prog 20 #[.pointer (some ⟨b,off,none⟩),q.v] W fun e W'=>e = .returned (wholeQ q).v/\Hid (After ⟨b,off,none⟩ (f || wholeB q) W W'):=by
 refine Calls.mono (rvwhole_law b off f q.w q.x q.y q.z W hc hf) ?_
 rintro e W' ⟨v0,v1,v2,v3,g,rfl,SS,A⟩
 obtain ⟨rfl,rfl,rfl,rfl,rfl⟩:=SS.out
 exact ⟨rfl,A⟩
theorem whole6_is {q:Q4} (h:wholeB q = false):WM.Whole (wholeQ q).w (wholeQ q).x (wholeQ q).y (wholeQ q).z:=by
 have hn:2147483648 <= wholeN q:=by
  have h9:=h
  unfold wholeB wholeBad at h9
  simp only [Bool.or_eq_false_iff,decide_eq_false_iff_not] at h9
  have:=h9.1
  unfold wholeN
  omega
 cases hx:norm [q.w,q.x,q.y,q.z] with
 | none=>unfold wholeN at hn;rw [hx] at hn;simp at hn
 | some n =>
  have en:wholeN q = n:=by unfold wholeN;rw [hx];rfl
  rw [en] at hn
  obtain ⟨a,b,c,d,l,e1,e2,e3,e4,_,_,_,k1,k2,k3,k4,k5,k6⟩:=WM.whole_long hx hn
  unfold wholeQ
  rw [h,en,e1,e2,e3,e4]
  exact ⟨k1,k2,k3,k4,k5,k6⟩
theorem right6_any (at0 at1 at2 qa qb_ qc qd:Int) (w0:World) (f0:-9223372036854775808 <= at0/\at0 <= 9223372036854775807) (f1:-9223372036854775808 <= at1/\at1 <= 9223372036854775807) (f2:-9223372036854775808 <= at2/\at2 <= 9223372036854775807) (f3:-9223372036854775808 <= qa/\qa <= 9223372036854775807) (f4:-9223372036854775808 <= qb_/\qb_ <= 9223372036854775807) (f5:-9223372036854775808 <= qc/\qc <= 9223372036854775807) (f6:-9223372036854775808 <= qd/\qd <= 9223372036854775807) :
  Calls Tryz.prog 7 #[.agg #[.int .i64 at0,.int .i64 at1,.int .i64 at2,.int .i64 qa,.int .i64 qb_,.int .i64 qc,.int .i64 qd]] w0 fun e W=>∃ (t:Pt) (q:Q4),e = .returned (poseV t q)/\t.inB 4398046511104 = true/\WM.Whole q.w q.x q.y q.z/\Below w0.heap.size w0 W:=by
 have HP0:Hid _:=fun w'=>part6_any qa 1099511627776 w' f3 (by decide)
 have HP1:Hid _:=fun w'=>part6_any qb_ 1099511627776 w' f4 (by decide)
 have HP2:Hid _:=fun w'=>part6_any qc 1099511627776 w' f5 (by decide)
 have HP3:Hid _:=fun w'=>part6_any qd 1099511627776 w' f6 (by decide)
 have HA0:Hid _:=fun w'=>part6_any at0 4398046511104 w' f0 (by decide)
 have HA1:Hid _:=fun w'=>part6_any at1 4398046511104 w' f1 (by decide)
 have HA2:Hid _:=fun w'=>part6_any at2 4398046511104 w' f2 (by decide)
 have HT:Hid (Pt.inB ⟨partZ at0 4398046511104,partZ at1 4398046511104,partZ at2 4398046511104⟩ 4398046511104 = true):=(Pt.inB_iff _ _).2 ⟨partZ_in _ (by decide),partZ_in _ (by decide),partZ_in _ (by decide)⟩
 generalize partZ at0 4398046511104 = ta at *
 generalize partZ at1 4398046511104 = tb at *
 generalize partZ at2 4398046511104 = tc at *
 generalize partZ qa 1099511627776 = pw at *
 generalize partZ qb_ 1099511627776 = px at *
 generalize partZ qc 1099511627776 = py at *
 generalize partZ qd 1099511627776 = pz at *
 have HW:Hid _:=fun (b:Nat) (w:World) (f:Bool)=>whole6_any b 0 f ⟨pw,px,py,pz⟩ w
 have HI:Hid (wholeB ⟨pw,px,py,pz⟩ = false->WM.Whole (wholeQ ⟨pw,px,py,pz⟩).w (wholeQ ⟨pw,px,py,pz⟩).x (wholeQ ⟨pw,px,py,pz⟩).y (wholeQ ⟨pw,px,py,pz⟩).z):=whole6_is
 generalize wholeQ ⟨pw,px,py,pz⟩ = vq at *
 generalize wholeB ⟨pw,px,py,pz⟩ = bd at *
 obtain ⟨vw,vx,vy,vz⟩:=vq
 unfold Q4.v at HW
 dsimp only at HW HI
 clear f0 f1 f2 f3 f4 f5 f6
 go_enter Tryz.func7,Tryz.ntmps7
 go_upto_region 2 with fail
 obtain ⟨V,hV⟩:∃ V:World,V = ((w0.alloc (.cells #[.int .i64 at0,.int .i64 at1,.int .i64 at2,.int .i64 qa,.int .i64 qb_,.int .i64 qc,.int .i64 qd] 31)).alloc (.cells #[.int .i64 0,.int .i64 0,.int .i64 0,.int .i64 0,.int .i64 0,.int .i64 0,.int .i64 0] 41)).alloc (.cells #[.bool false] 66):=⟨_,rfl⟩
 obtain ⟨rb,hrb⟩:∃ b,b = w0.heap.size:=⟨_,rfl⟩
 obtain ⟨ob,hob'⟩:∃ b,b = w0.heap.size + 1:=⟨_,rfl⟩
 obtain ⟨wb,hwb'⟩:∃ b,b = w0.heap.size + 1 + 1:=⟨_,rfl⟩
 have hBV:Hid (Below w0.heap.size w0 V):=by show Below _ _ _;rw [hV];exact b_step (b_step (n_after _ _) (n_after _ _)) (n_after _ _)
 have B1:Hid (Cells V rb [.int .i64 at0,.int .i64 at1,.int .i64 at2,.int .i64 qa,.int .i64 qb_,.int .i64 qc,.int .i64 qd]):=by show Cells _ _ _;rw [hV,hrb];exact ((Cells.new w0 [.int .i64 at0,.int .i64 at1,.int .i64 at2,.int .i64 qa,.int .i64 qb_,.int .i64 qc,.int .i64 qd] _).step (n_after _ _)).step (n_after _ _)
 have B3:Hid (Cells V ob [.int .i64 0,.int .i64 0,.int .i64 0,.int .i64 0,.int .i64 0,.int .i64 0,.int .i64 0]):=by show Cells _ _ _;rw [hV,hob'];have h9:=(Cells.new (w0.alloc (.cells #[.int .i64 at0,.int .i64 at1,.int .i64 at2,.int .i64 qa,.int .i64 qb_,.int .i64 qc,.int .i64 qd] 31)) [.int .i64 0,.int .i64 0,.int .i64 0,.int .i64 0,.int .i64 0,.int .i64 0,.int .i64 0] 41).step (n_after _ (.cells #[.bool false] 66));rw [World.size_alloc] at h9;exact h9
 have B2:Hid (Cells V wb [.bool false]):=by show Cells _ _ _;rw [hV,hwb'];have h9:=Cells.new ((w0.alloc (.cells #[.int .i64 at0,.int .i64 at1,.int .i64 at2,.int .i64 qa,.int .i64 qb_,.int .i64 qc,.int .i64 qd] 31)).alloc (.cells #[.int .i64 0,.int .i64 0,.int .i64 0,.int .i64 0,.int .i64 0,.int .i64 0,.int .i64 0] 41)) [.bool false] 66;rw [World.size_alloc,World.size_alloc] at h9;exact h9
 have hVs:V.heap.size = w0.heap.size + 3:=by rw [hV];simp
 rw [<- hV,<- hwb',<- hob',<- hrb]
 have hwb:w0.heap.size <= wb:=by omega
 have hob:w0.heap.size <= ob:=by omega
 have hrw:rb ≠ wb:=by omega
 have how_:ob ≠ wb:=by omega
 have hro:rb ≠ ob:=by omega
 have hwV:wb < V.heap.size:=by omega
 have hrV:rb < V.heap.size:=by omega
 have hoV:ob < V.heap.size:=by omega
 clear hV hrb hob' hwb'
 have HW:Hid _:=HW.out wb
 go_cut [4] from 5 (fun s4 wx=>∃ b3:Nat,s4 = .pointer (some ⟨b3,0,none⟩)/\Below w0.heap.size w0 wx/\Cells wx rb [.int .i64 at0,.int .i64 at1,.int .i64 at2,.int .i64 qa,.int .i64 qb_,.int .i64 qc,.int .i64 qd]/\Cells wx ob [.int .i64 0,.int .i64 0,.int .i64 0,.int .i64 0,.int .i64 0,.int .i64 0,.int .i64 0]/\Cells wx b3 [.int .i64 vw,.int .i64 vx,.int .i64 vy,.int .i64 vz]/\w0.heap.size <= b3/\rb ≠ b3/\ob ≠ b3/\wx.cell? ⟨wb,0,none⟩ = some (.bool bd))
 case first =>
  refine RV.rs [.some (.pointer (some ⟨wb,0,none⟩)),.some (.pointer (some ⟨rb,3,none⟩)),.some (.pointer (some ⟨rb,3,none⟩)),.some (.int .i64 qa),.some (.int .i64 pw),.some (.pointer (some ⟨rb,3,none⟩)),.some (.pointer (some ⟨rb,4,none⟩)),.some (.int .i64 qb_),.some (.int .i64 px),.some (.pointer (some ⟨rb,3,none⟩)),.some (.pointer (some ⟨rb,5,none⟩)),.some (.int .i64 qc),.some (.int .i64 py),.some (.pointer (some ⟨rb,3,none⟩)),.some (.pointer (some ⟨rb,6,none⟩)),.some (.int .i64 qd),.some (.int .i64 pz),.some (.agg #[.int .i64 pw,.int .i64 px,.int .i64 py,.int .i64 pz]),.some (.agg #[.int .i64 vw,.int .i64 vx,.int .i64 vy,.int .i64 vz]),none,none] [8,9,10,11,12,13,14,15,16,17,18,19,20,21,22,23,24,25,26,5,0] [(1,.pointer (some ⟨rb,0,none⟩)),(3,.pointer (some ⟨wb,0,none⟩))] (fun γ L w=>Below w0.heap.size w0 w/\Cells w rb [.int .i64 at0,.int .i64 at1,.int .i64 at2,.int .i64 qa,.int .i64 qb_,.int .i64 qc,.int .i64 qd]/\Cells w wb [.bool (L 18 && bd)]/\Cells w ob [.int .i64 0,.int .i64 0,.int .i64 0,.int .i64 0,.int .i64 0,.int .i64 0,.int .i64 0]/\RV.Pend V 29 19 20 #[.int .i64 vw,.int .i64 vx,.int .i64 vy,.int .i64 vz] γ L w/\V.heap.size <= w.heap.size) ⟨rfl,rfl,trivial⟩ ?_ ?_ ?_
  ·have b9:Below V.heap.size V V.drew:=(Below.refl _ _).drew;exact ⟨b_step hBV.out b9,B1.out.step b9,B2.out.step b9,B3.out.step b9,RV.Pend.start rfl,Nat.le_refl _⟩
  ·intro D WA Z hD hWA hZ T
   simp only [RV.Outs,RV.Slots,Nat.reduceAdd] at T
   iterate 4 first
    | (refine RV.cc _ (RV.pu T (fun γ v L w hl h=>⟨h.1,h.2.1,by rw [RV.mn (L:=L) (i:=_) (j:=18) (by decide)];exact h.2.2.1,h.2.2.2.1,h.2.2.2.2.1.other v (by decide) (by decide),h.2.2.2.2.2⟩) (fun γ L a w hH hl h9 k9=>⟨_,?_,rfl⟩)) ?_;· simp [execOp,go_sem,h9])
    | (refine RV.cc _ (RV.pu T (fun γ v L w hl h=>⟨h.1,h.2.1,by rw [RV.mn (L:=L) (i:=_) (j:=18) (by decide)];exact h.2.2.1,h.2.2.2.1,h.2.2.2.2.1.other v (by decide) (by decide),h.2.2.2.2.2⟩) (fun γ L a w hH hl h9 k9=>⟨_,?_,rfl⟩)) ?_;· simp [Region.binds] at k9;simp [execOp,go_sem,h9,k9])
    | (refine RV.cc _ (RV.pu T (fun γ v L w hl h=>⟨h.1,h.2.1,by rw [RV.mn (L:=L) (i:=_) (j:=18) (by decide)];exact h.2.2.1,h.2.2.2.1,h.2.2.2.2.1.other v (by decide) (by decide),h.2.2.2.2.2⟩) (fun γ L a w hH hl h9 k9=>⟨_,?_,rfl⟩)) ?_;· have wz9:=(hH.glob.2.1 3 _ rfl).1;simp [Region.binds] at k9;simp [execOp,go_sem,h9,k9,wz9])
   refine RV.cc _ (RV.dc (fun γ L a w hH hl hA=>by have h9:=T γ L a w hH;have k9:=hA;simp [Region.binds] at k9;refine ⟨21,#[.int .i64 qa,.int .i64 1099511627776],by simp [go_sem,h9,k9],Calls.mono (HP0.out w) ?_⟩;rintro e w2 ⟨rfl,rfl⟩;exact ⟨_,rfl,rfl,fun j v _ h=>h.keep _,hH.glob.1,hH.glob.2.1,by rw [RV.mn (L:=L) (i:=4) (j:=18) (by decide)];exact hH.glob.2.2.1,hH.glob.2.2.2.1,hH.glob.2.2.2.2.1.other _ (by decide) (by decide),hH.glob.2.2.2.2.2⟩)) ?_
   iterate 3 first
    | (refine RV.cc _ (RV.pu T (fun γ v L w hl h=>⟨h.1,h.2.1,by rw [RV.mn (L:=L) (i:=_) (j:=18) (by decide)];exact h.2.2.1,h.2.2.2.1,h.2.2.2.2.1.other v (by decide) (by decide),h.2.2.2.2.2⟩) (fun γ L a w hH hl h9 k9=>⟨_,?_,rfl⟩)) ?_;· simp [execOp,go_sem,h9])
    | (refine RV.cc _ (RV.pu T (fun γ v L w hl h=>⟨h.1,h.2.1,by rw [RV.mn (L:=L) (i:=_) (j:=18) (by decide)];exact h.2.2.1,h.2.2.2.1,h.2.2.2.2.1.other v (by decide) (by decide),h.2.2.2.2.2⟩) (fun γ L a w hH hl h9 k9=>⟨_,?_,rfl⟩)) ?_;· simp [Region.binds] at k9;simp [execOp,go_sem,h9,k9])
    | (refine RV.cc _ (RV.pu T (fun γ v L w hl h=>⟨h.1,h.2.1,by rw [RV.mn (L:=L) (i:=_) (j:=18) (by decide)];exact h.2.2.1,h.2.2.2.1,h.2.2.2.2.1.other v (by decide) (by decide),h.2.2.2.2.2⟩) (fun γ L a w hH hl h9 k9=>⟨_,?_,rfl⟩)) ?_;· have wz9:=(hH.glob.2.1 4 _ rfl).1;simp [Region.binds] at k9;simp [execOp,go_sem,h9,k9,wz9])
   refine RV.cc _ (RV.dc (fun γ L a w hH hl hA=>by have h9:=T γ L a w hH;have k9:=hA;simp [Region.binds] at k9;refine ⟨21,#[.int .i64 qb_,.int .i64 1099511627776],by simp [go_sem,h9,k9],Calls.mono (HP1.out w) ?_⟩;rintro e w2 ⟨rfl,rfl⟩;exact ⟨_,rfl,rfl,fun j v _ h=>h.keep _,hH.glob.1,hH.glob.2.1,by rw [RV.mn (L:=L) (i:=8) (j:=18) (by decide)];exact hH.glob.2.2.1,hH.glob.2.2.2.1,hH.glob.2.2.2.2.1.other _ (by decide) (by decide),hH.glob.2.2.2.2.2⟩)) ?_
   iterate 3 first
    | (refine RV.cc _ (RV.pu T (fun γ v L w hl h=>⟨h.1,h.2.1,by rw [RV.mn (L:=L) (i:=_) (j:=18) (by decide)];exact h.2.2.1,h.2.2.2.1,h.2.2.2.2.1.other v (by decide) (by decide),h.2.2.2.2.2⟩) (fun γ L a w hH hl h9 k9=>⟨_,?_,rfl⟩)) ?_;· simp [execOp,go_sem,h9])
    | (refine RV.cc _ (RV.pu T (fun γ v L w hl h=>⟨h.1,h.2.1,by rw [RV.mn (L:=L) (i:=_) (j:=18) (by decide)];exact h.2.2.1,h.2.2.2.1,h.2.2.2.2.1.other v (by decide) (by decide),h.2.2.2.2.2⟩) (fun γ L a w hH hl h9 k9=>⟨_,?_,rfl⟩)) ?_;· simp [Region.binds] at k9;simp [execOp,go_sem,h9,k9])
    | (refine RV.cc _ (RV.pu T (fun γ v L w hl h=>⟨h.1,h.2.1,by rw [RV.mn (L:=L) (i:=_) (j:=18) (by decide)];exact h.2.2.1,h.2.2.2.1,h.2.2.2.2.1.other v (by decide) (by decide),h.2.2.2.2.2⟩) (fun γ L a w hH hl h9 k9=>⟨_,?_,rfl⟩)) ?_;· have wz9:=(hH.glob.2.1 5 _ rfl).1;simp [Region.binds] at k9;simp [execOp,go_sem,h9,k9,wz9])
   refine RV.cc _ (RV.dc (fun γ L a w hH hl hA=>by have h9:=T γ L a w hH;have k9:=hA;simp [Region.binds] at k9;refine ⟨21,#[.int .i64 qc,.int .i64 1099511627776],by simp [go_sem,h9,k9],Calls.mono (HP2.out w) ?_⟩;rintro e w2 ⟨rfl,rfl⟩;exact ⟨_,rfl,rfl,fun j v _ h=>h.keep _,hH.glob.1,hH.glob.2.1,by rw [RV.mn (L:=L) (i:=12) (j:=18) (by decide)];exact hH.glob.2.2.1,hH.glob.2.2.2.1,hH.glob.2.2.2.2.1.other _ (by decide) (by decide),hH.glob.2.2.2.2.2⟩)) ?_
   iterate 3 first
    | (refine RV.cc _ (RV.pu T (fun γ v L w hl h=>⟨h.1,h.2.1,by rw [RV.mn (L:=L) (i:=_) (j:=18) (by decide)];exact h.2.2.1,h.2.2.2.1,h.2.2.2.2.1.other v (by decide) (by decide),h.2.2.2.2.2⟩) (fun γ L a w hH hl h9 k9=>⟨_,?_,rfl⟩)) ?_;· simp [execOp,go_sem,h9])
    | (refine RV.cc _ (RV.pu T (fun γ v L w hl h=>⟨h.1,h.2.1,by rw [RV.mn (L:=L) (i:=_) (j:=18) (by decide)];exact h.2.2.1,h.2.2.2.1,h.2.2.2.2.1.other v (by decide) (by decide),h.2.2.2.2.2⟩) (fun γ L a w hH hl h9 k9=>⟨_,?_,rfl⟩)) ?_;· simp [Region.binds] at k9;simp [execOp,go_sem,h9,k9])
    | (refine RV.cc _ (RV.pu T (fun γ v L w hl h=>⟨h.1,h.2.1,by rw [RV.mn (L:=L) (i:=_) (j:=18) (by decide)];exact h.2.2.1,h.2.2.2.1,h.2.2.2.2.1.other v (by decide) (by decide),h.2.2.2.2.2⟩) (fun γ L a w hH hl h9 k9=>⟨_,?_,rfl⟩)) ?_;· have wz9:=(hH.glob.2.1 6 _ rfl).1;simp [Region.binds] at k9;simp [execOp,go_sem,h9,k9,wz9])
   refine RV.cc _ (RV.dc (fun γ L a w hH hl hA=>by have h9:=T γ L a w hH;have k9:=hA;simp [Region.binds] at k9;refine ⟨21,#[.int .i64 qd,.int .i64 1099511627776],by simp [go_sem,h9,k9],Calls.mono (HP3.out w) ?_⟩;rintro e w2 ⟨rfl,rfl⟩;exact ⟨_,rfl,rfl,fun j v _ h=>h.keep _,hH.glob.1,hH.glob.2.1,by rw [RV.mn (L:=L) (i:=16) (j:=18) (by decide)];exact hH.glob.2.2.1,hH.glob.2.2.2.1,hH.glob.2.2.2.2.1.other _ (by decide) (by decide),hH.glob.2.2.2.2.2⟩)) ?_
   (refine RV.cc _ (RV.pu T (fun γ v L w hl h=>⟨h.1,h.2.1,by rw [RV.mn (L:=L) (i:=_) (j:=18) (by decide)];exact h.2.2.1,h.2.2.2.1,h.2.2.2.2.1.other v (by decide) (by decide),h.2.2.2.2.2⟩) (fun γ L a w hH hl h9 k9=>⟨_,?_,rfl⟩)) ?_;· simp [Region.binds] at k9;simp [execOp,go_sem,h9,k9])
   refine RV.cc _ (RV.dc (fun γ L a w hH hl hA=>by have h9:=T γ L a w hH;have k9:=hA;simp [Region.binds] at k9;have hG:=hH.glob;rw [hl] at hG;have wz:=hG.2.2.1 0 _ rfl;refine ⟨20,#[.pointer (some ⟨wb,0,none⟩),.agg #[.int .i64 pw,.int .i64 px,.int .i64 py,.int .i64 pz]],by simp [go_sem,h9,k9],Calls.mono (HW.out w _ wz.1 wz.2) ?_⟩;rintro e w2 ⟨rfl,A⟩;refine ⟨_,rfl,rfl,fun j v _ h=>h.keep _,?_⟩;have A9:=A.out;exact ⟨A9.on hG.1 hwb,hG.2.1.beside A9 hrw,by rw [RV.more_self];exact Cells.after hG.2.2.1 A9,hG.2.2.2.1.beside A9 how_,(hG.2.2.2.2.1.after A9 hwV).other _ (by decide) (by decide),Nat.le_trans hG.2.2.2.2.2 A9.size⟩)) ?_
   refine RV.cc _ (RV.does_step (fun γ L a w hH hl hA=>by have hG:=hH.glob;have h20:L 20 = false:=RV.ny hH (RV.wt (j:=20) (i:=19) hWA (by kernel_rfl)) hl;exact ⟨.pointer (some ⟨w.heap.size,0,none⟩),w.alloc (.cells #[.int .i64 0,.int .i64 0,.int .i64 0,.int .i64 0] 29),by simp [execOp,go_sem],trivial,fun j v _ h=>h.keep _,hG.1.alloc hG.1.size _,hG.2.1.step (n_after _ _),by rw [RV.mn (L:=L) (i:=19) (j:=18) (by decide)];exact hG.2.2.1.step (n_after _ _),hG.2.2.2.1.step (n_after _ _),RV.Pend.made _ rfl hG.2.2.2.2.2 h20 (by decide),by rw [World.size_alloc];have h8:=hG.2.2.2.2.2;omega⟩)) ?_
   refine RV.cc _ (RV.does_store (fun γ L a w hH hl hA=>by have h9:=T γ L a w hH;have k9:=hA;simp [Region.binds] at k9;have l0:L 19 = true:=hA ⟨19,.data⟩ (by simp) rfl;have e0:=hH.slot 19 4 (by rw [<- hD];rfl) l0;have hG:=hH.glob;obtain ⟨b,cs,hb1,hb2,hb3,hb4,_⟩:=hG.2.2.2.2.1 l0;rw [hb1] at e0;obtain ⟨u0,u1,u2,u3,rfl⟩:=arr4' hb4;have wz0:w.cell? ⟨b,0,none⟩ = some u0:=(by simp [World.cell?,hb3]);have wz1:w.cell? ⟨b,1,none⟩ = some u1:=(by simp [World.cell?,hb3]);have wz2:w.cell? ⟨b,2,none⟩ = some u2:=(by simp [World.cell?,hb3]);have wz3:w.cell? ⟨b,3,none⟩ = some u3:=(by simp [World.cell?,hb3]);have zf:∀ o,w.frozen? ⟨b,o,none⟩ = false:=fun o=>(by simp [World.frozen?,hb3]);have n1:rb ≠ b:=(by omega);have n2:wb ≠ b:=(by omega);have n3:ob ≠ b:=(by omega);have n4:w0.heap.size <= b:=(by omega);exact ⟨((((w.setCell ⟨b,0,none⟩ (.int .i64 vw)).setCell ⟨b,1,none⟩ (.int .i64 vx)).setCell ⟨b,2,none⟩ (.int .i64 vy)).setCell ⟨b,3,none⟩ (.int .i64 vz)),by simp [execOp,go_sem,e0,wz0,wz1,wz2,wz3,zf,h9,k9],trivial,fun j v _ h=>h.keep _,((((hG.1.setCell n4 _).setCell n4 _).setCell n4 _).setCell n4 _),((((hG.2.1.apart n1 0 _).apart n1 1 _).apart n1 2 _).apart n1 3 _),by rw [RV.mn (L:=L) (i:=20) (j:=18) (by decide)];exact ((((hG.2.2.1.apart n2 0 _).apart n2 1 _).apart n2 2 _).apart n2 3 _),((((hG.2.2.2.1.apart n3 0 _).apart n3 1 _).apart n3 2 _).apart n3 3 _),RV.Pend.filled hb1 hb2 (by have q0:=Go.heap_setCell_same w b 0 _ _ (.int .i64 vw) hb3;have q1:=Go.heap_setCell_same _ b 1 _ _ (.int .i64 vx) q0;have q2:=Go.heap_setCell_same _ b 2 _ _ (.int .i64 vy) q1;have q3:=Go.heap_setCell_same _ b 3 _ _ (.int .i64 vz) q2;simpa using q3) (by decide) _,by have h8:=hG.2.2.2.2.2;simpa [World.setCell] using h8⟩)) ?_
   exact RV.AllDo.nil
  ·intro γ w5 L9 hL hI9 hG9
   have hG:=hG9
   rw [hL 18 (by decide)] at hG
   obtain ⟨b3,cs,hb1,hb2,hb3,_,hb5⟩:=hG.2.2.2.2.1 (hL 19 (by decide))
   rw [hb5 (hL 20 (by decide))] at hb3
   clear hL hb5 hI9 hG9
   simp only [RV.putL,Act.put,List.setIfInBounds_toArray,List.set_cons_zero,List.set_cons_succ,Nat.reduceAdd]
   rw [hb1]
   have C3:Cells w5 b3 [.int .i64 vw,.int .i64 vx,.int .i64 vy,.int .i64 vz]:=fun i v e=>⟨by simp [World.cell?,hb3];exact e,by simp [World.frozen?,hb3]⟩
   have HH:Hid (Below w0.heap.size w0 w5/\Cells w5 rb [.int .i64 at0,.int .i64 at1,.int .i64 at2,.int .i64 qa,.int .i64 qb_,.int .i64 qc,.int .i64 qd]/\Cells w5 ob [.int .i64 0,.int .i64 0,.int .i64 0,.int .i64 0,.int .i64 0,.int .i64 0,.int .i64 0]):=⟨hG.1,hG.2.1,hG.2.2.2.1⟩
   have fl:=(hG.2.2.1 0 _ rfl).1
   have nrb:rb ≠ b3:=by omega
   have nob:ob ≠ b3:=by omega
   have nb4:w0.heap.size <= b3:=by omega
   clear hG hb1 hb3
   go_wp2_with (fail)
   go_meet
   case rel=>exact ⟨b3,rfl,HH.out.1,HH.out.2.1,HH.out.2.2,C3,nb4,nrb,nob,by simpa using fl⟩
 case rest =>
  obtain ⟨b3,rfl,k1,k2,k3,k4,nb4,nrb,nob,fl⟩:=hcut
  have hbo:b3 ≠ ob:=fun e=>nob e.symm
  have H1:Hid _:=And.intro k1 (And.intro k2 (And.intro k3 k4))
  clear k1 k2 k3 k4 B1 B2 B3 hBV HP0 HP1 HP2 HP3 HW
  go_upto_if 29 with fail
  go_cut [] from 26 (fun wx=>∃ ua ub uc ud:Int,Hid (WM.Whole ua ub uc ud)/\Below w0.heap.size w0 wx/\Cells wx rb [.int .i64 at0,.int .i64 at1,.int .i64 at2,.int .i64 qa,.int .i64 qb_,.int .i64 qc,.int .i64 qd]/\Cells wx ob [.int .i64 0,.int .i64 0,.int .i64 0,.int .i64 0,.int .i64 0,.int .i64 0,.int .i64 0]/\Cells wx b3 [.int .i64 ua,.int .i64 ub,.int .i64 uc,.int .i64 ud])
  case first =>
   cases bd with
   | false =>
    go_wp2_with (fail)
    go_meet
    case rel=>exact ⟨vw,vx,vy,vz,(by first | exact HI.out rfl | exact HI.out trivial),H1.out.1,H1.out.2.1,H1.out.2.2.1,H1.out.2.2.2⟩
   | true =>
    obtain ⟨k1,k2,k3,k4⟩:=H1.out
    have HN:Hid (Below w0.heap.size w0 (set4 wc b3 (.int .i64 4294967296) (.int .i64 0) (.int .i64 0) (.int .i64 0))/\Cells (set4 wc b3 (.int .i64 4294967296) (.int .i64 0) (.int .i64 0) (.int .i64 0)) rb [.int .i64 at0,.int .i64 at1,.int .i64 at2,.int .i64 qa,.int .i64 qb_,.int .i64 qc,.int .i64 qd]/\Cells (set4 wc b3 (.int .i64 4294967296) (.int .i64 0) (.int .i64 0) (.int .i64 0)) ob [.int .i64 0,.int .i64 0,.int .i64 0,.int .i64 0,.int .i64 0,.int .i64 0,.int .i64 0]/\Cells (set4 wc b3 (.int .i64 4294967296) (.int .i64 0) (.int .i64 0) (.int .i64 0)) b3 [.int .i64 4294967296,.int .i64 0,.int .i64 0,.int .i64 0]):=
     ⟨set4_below k1 nb4 _ _ _ _,((((Cells.apart k2 nrb 0 _).apart nrb 1 _).apart nrb 2 _).apart nrb 3 _),((((Cells.apart k3 nob 0 _).apart nob 1 _).apart nob 2 _).apart nob 3 _),Cells.set4 k4 _ _ _ _⟩
    obtain ⟨z0,z0f⟩:=k4 0 _ rfl
    obtain ⟨z1,z1f⟩:=k4 1 _ rfl
    obtain ⟨z2,z2f⟩:=k4 2 _ rfl
    obtain ⟨z3,z3f⟩:=k4 3 _ rfl
    unfold set4 at HN
    clear k1 k2 k3 k4
    go_wp2_with (fail)
    go_meet
    case rel=>exact ⟨4294967296,0,0,0,(by unfold WM.Whole;decide:WM.Whole 4294967296 0 0 0),HN.out.1,HN.out.2.1,HN.out.2.2.1,HN.out.2.2.2⟩
  case rest =>
   obtain ⟨ua,ub,uc,ud,HQ9,k1,k2,k3,k4⟩:=hcut
   clear H1 fl HI
   go_upto_region 5 with fail
   obtain ⟨X,hX⟩:∃ X:World,X = wc:=⟨_,rfl⟩
   rw [<- hX] at k1 k2 k3 k4 ⊢
   clear hX
   refine RV.rs [.some (.pointer (some ⟨rb,0,none⟩)),.some (.pointer (some ⟨rb,0,none⟩)),.some (.int .i64 at0),.some (.int .i64 ta),.some (.pointer (some ⟨rb,0,none⟩)),.some (.pointer (some ⟨rb,1,none⟩)),.some (.int .i64 at1),.some (.int .i64 tb),.some (.pointer (some ⟨rb,0,none⟩)),.some (.pointer (some ⟨rb,2,none⟩)),.some (.int .i64 at2),.some (.int .i64 tc),.some (.agg #[.int .i64 ta,.int .i64 tb,.int .i64 tc]),.some (.agg #[.int .i64 ua,.int .i64 ub,.int .i64 uc,.int .i64 ud]),.some (.agg #[.int .i64 ta,.int .i64 tb,.int .i64 tc,.int .i64 ua,.int .i64 ub,.int .i64 uc,.int .i64 ud]),none] [32,33,34,35,36,37,38,39,40,41,42,43,44,45,46,0] [(1,.pointer (some ⟨rb,0,none⟩)),(2,.pointer (some ⟨ob,0,none⟩)),(4,.pointer (some ⟨b3,0,none⟩))] (fun γ L w=>Below w0.heap.size w0 w/\Cells w rb [.int .i64 at0,.int .i64 at1,.int .i64 at2,.int .i64 qa,.int .i64 qb_,.int .i64 qc,.int .i64 qd]/\Cells w b3 [.int .i64 ua,.int .i64 ub,.int .i64 uc,.int .i64 ud]/\Cells w ob (cond (L 15) [.int .i64 ta,.int .i64 tb,.int .i64 tc,.int .i64 ua,.int .i64 ub,.int .i64 uc,.int .i64 ud] [.int .i64 0,.int .i64 0,.int .i64 0,.int .i64 0,.int .i64 0,.int .i64 0,.int .i64 0])) ⟨rfl,rfl,rfl,trivial⟩ ?_ ?_ ?_
   ·have b9:Below X.heap.size X X.drew:=(Below.refl _ _).drew;exact ⟨b_step k1 b9,Cells.step k2 b9,Cells.step k4 b9,Cells.step k3 b9⟩
   ·intro D WA Z hD hWA hZ T
    simp only [RV.Outs,RV.Slots,Nat.reduceAdd] at T
    iterate 3 first
     | (refine RV.cc _ (RV.pu T (fun γ v L w hl h=>⟨h.1,h.2.1,h.2.2.1,by rw [RV.mn (L:=L) (i:=_) (j:=15) (by decide)];exact h.2.2.2⟩) (fun γ L a w hH hl h9 k9=>⟨_,?_,rfl⟩)) ?_;· simp [execOp,go_sem,h9])
     | (refine RV.cc _ (RV.pu T (fun γ v L w hl h=>⟨h.1,h.2.1,h.2.2.1,by rw [RV.mn (L:=L) (i:=_) (j:=15) (by decide)];exact h.2.2.2⟩) (fun γ L a w hH hl h9 k9=>⟨_,?_,rfl⟩)) ?_;· simp [Region.binds] at k9;simp [execOp,go_sem,h9,k9])
     | (refine RV.cc _ (RV.pu T (fun γ v L w hl h=>⟨h.1,h.2.1,h.2.2.1,by rw [RV.mn (L:=L) (i:=_) (j:=15) (by decide)];exact h.2.2.2⟩) (fun γ L a w hH hl h9 k9=>⟨_,?_,rfl⟩)) ?_;· have wz9:=(hH.glob.2.1 0 _ rfl).1;simp [Region.binds] at k9;simp [execOp,go_sem,h9,k9,wz9])
    refine RV.cc _ (RV.dc (fun γ L a w hH hl hA=>by have h9:=T γ L a w hH;have k9:=hA;simp [Region.binds] at k9;refine ⟨21,#[.int .i64 at0,.int .i64 4398046511104],by simp [go_sem,h9,k9],Calls.mono (HA0.out w) ?_⟩;rintro e w2 ⟨rfl,rfl⟩;exact ⟨_,rfl,rfl,fun j v _ h=>h.keep _,hH.glob.1,hH.glob.2.1,hH.glob.2.2.1,by rw [RV.mn (L:=L) (i:=3) (j:=15) (by decide)];exact hH.glob.2.2.2⟩)) ?_
    iterate 3 first
     | (refine RV.cc _ (RV.pu T (fun γ v L w hl h=>⟨h.1,h.2.1,h.2.2.1,by rw [RV.mn (L:=L) (i:=_) (j:=15) (by decide)];exact h.2.2.2⟩) (fun γ L a w hH hl h9 k9=>⟨_,?_,rfl⟩)) ?_;· simp [execOp,go_sem,h9])
     | (refine RV.cc _ (RV.pu T (fun γ v L w hl h=>⟨h.1,h.2.1,h.2.2.1,by rw [RV.mn (L:=L) (i:=_) (j:=15) (by decide)];exact h.2.2.2⟩) (fun γ L a w hH hl h9 k9=>⟨_,?_,rfl⟩)) ?_;· simp [Region.binds] at k9;simp [execOp,go_sem,h9,k9])
     | (refine RV.cc _ (RV.pu T (fun γ v L w hl h=>⟨h.1,h.2.1,h.2.2.1,by rw [RV.mn (L:=L) (i:=_) (j:=15) (by decide)];exact h.2.2.2⟩) (fun γ L a w hH hl h9 k9=>⟨_,?_,rfl⟩)) ?_;· have wz9:=(hH.glob.2.1 1 _ rfl).1;simp [Region.binds] at k9;simp [execOp,go_sem,h9,k9,wz9])
    refine RV.cc _ (RV.dc (fun γ L a w hH hl hA=>by have h9:=T γ L a w hH;have k9:=hA;simp [Region.binds] at k9;refine ⟨21,#[.int .i64 at1,.int .i64 4398046511104],by simp [go_sem,h9,k9],Calls.mono (HA1.out w) ?_⟩;rintro e w2 ⟨rfl,rfl⟩;exact ⟨_,rfl,rfl,fun j v _ h=>h.keep _,hH.glob.1,hH.glob.2.1,hH.glob.2.2.1,by rw [RV.mn (L:=L) (i:=7) (j:=15) (by decide)];exact hH.glob.2.2.2⟩)) ?_
    iterate 3 first
     | (refine RV.cc _ (RV.pu T (fun γ v L w hl h=>⟨h.1,h.2.1,h.2.2.1,by rw [RV.mn (L:=L) (i:=_) (j:=15) (by decide)];exact h.2.2.2⟩) (fun γ L a w hH hl h9 k9=>⟨_,?_,rfl⟩)) ?_;· simp [execOp,go_sem,h9])
     | (refine RV.cc _ (RV.pu T (fun γ v L w hl h=>⟨h.1,h.2.1,h.2.2.1,by rw [RV.mn (L:=L) (i:=_) (j:=15) (by decide)];exact h.2.2.2⟩) (fun γ L a w hH hl h9 k9=>⟨_,?_,rfl⟩)) ?_;· simp [Region.binds] at k9;simp [execOp,go_sem,h9,k9])
     | (refine RV.cc _ (RV.pu T (fun γ v L w hl h=>⟨h.1,h.2.1,h.2.2.1,by rw [RV.mn (L:=L) (i:=_) (j:=15) (by decide)];exact h.2.2.2⟩) (fun γ L a w hH hl h9 k9=>⟨_,?_,rfl⟩)) ?_;· have wz9:=(hH.glob.2.1 2 _ rfl).1;simp [Region.binds] at k9;simp [execOp,go_sem,h9,k9,wz9])
    refine RV.cc _ (RV.dc (fun γ L a w hH hl hA=>by have h9:=T γ L a w hH;have k9:=hA;simp [Region.binds] at k9;refine ⟨21,#[.int .i64 at2,.int .i64 4398046511104],by simp [go_sem,h9,k9],Calls.mono (HA2.out w) ?_⟩;rintro e w2 ⟨rfl,rfl⟩;exact ⟨_,rfl,rfl,fun j v _ h=>h.keep _,hH.glob.1,hH.glob.2.1,hH.glob.2.2.1,by rw [RV.mn (L:=L) (i:=11) (j:=15) (by decide)];exact hH.glob.2.2.2⟩)) ?_
    iterate 3 first
     | (refine RV.cc _ (RV.pu T (fun γ v L w hl h=>⟨h.1,h.2.1,h.2.2.1,by rw [RV.mn (L:=L) (i:=_) (j:=15) (by decide)];exact h.2.2.2⟩) (fun γ L a w hH hl h9 k9=>⟨_,?_,rfl⟩)) ?_;· have wz0:=(hH.glob.2.2.1 0 _ rfl).1;have wz1:=(hH.glob.2.2.1 1 _ rfl).1;have wz2:=(hH.glob.2.2.1 2 _ rfl).1;have wz3:=(hH.glob.2.2.1 3 _ rfl).1;simp [execOp,go_sem,h9,wz0,wz1,wz2,wz3])
     | (refine RV.cc _ (RV.pu T (fun γ v L w hl h=>⟨h.1,h.2.1,h.2.2.1,by rw [RV.mn (L:=L) (i:=_) (j:=15) (by decide)];exact h.2.2.2⟩) (fun γ L a w hH hl h9 k9=>⟨_,?_,rfl⟩)) ?_;· simp [Region.binds] at k9;simp [execOp,go_sem,h9,k9])
    refine RV.cc _ (RV.does_store (fun γ L a w hH hl hA=>by have h9:=T γ L a w hH;have k9:=hA;simp [Region.binds] at k9;have hG:=hH.glob;rw [hl] at hG;have wz0:=hG.2.2.2 0 _ rfl;have wz1:=hG.2.2.2 1 _ rfl;have wz2:=hG.2.2.2 2 _ rfl;have wz3:=hG.2.2.2 3 _ rfl;have wz4:=hG.2.2.2 4 _ rfl;have wz5:=hG.2.2.2 5 _ rfl;have wz6:=hG.2.2.2 6 _ rfl;refine ⟨(((((((w.setCell ⟨ob,0,none⟩ (.int .i64 ta)).setCell ⟨ob,1,none⟩ (.int .i64 tb)).setCell ⟨ob,2,none⟩ (.int .i64 tc)).setCell ⟨ob,3,none⟩ (.int .i64 ua)).setCell ⟨ob,4,none⟩ (.int .i64 ub)).setCell ⟨ob,5,none⟩ (.int .i64 uc)).setCell ⟨ob,6,none⟩ (.int .i64 ud)),by simp [execOp,go_sem,wz0.1,wz0.2,wz1.1,wz1.2,wz2.1,wz2.2,wz3.1,wz3.2,wz4.1,wz4.2,wz5.1,wz5.2,wz6.1,wz6.2,h9,k9],trivial,fun j v _ h=>h.keep _,(((((((hG.1.setCell hob _).setCell hob _).setCell hob _).setCell hob _).setCell hob _).setCell hob _).setCell hob _),(((((((hG.2.1.apart hro 0 _).apart hro 1 _).apart hro 2 _).apart hro 3 _).apart hro 4 _).apart hro 5 _).apart hro 6 _),(((((((hG.2.2.1.apart hbo 0 _).apart hbo 1 _).apart hbo 2 _).apart hbo 3 _).apart hbo 4 _).apart hbo 5 _).apart hbo 6 _),?_⟩;rw [RV.more_self];exact (Cells.set (Cells.set (Cells.set (Cells.set (Cells.set (Cells.set (Cells.set hG.2.2.2 0 (.int .i64 ta) (by simp)) 1 (.int .i64 tb) (by simp)) 2 (.int .i64 tc) (by simp)) 3 (.int .i64 ua) (by simp)) 4 (.int .i64 ub) (by simp)) 5 (.int .i64 uc) (by simp)) 6 (.int .i64 ud) (by simp)))) ?_
    exact RV.AllDo.nil
   ·intro γ w5 L9 hL hI9 hG9
    have hG:=hG9
    rw [hL 15 (by decide)] at hG
    clear hL hI9 hG9
    simp only [RV.putL,Act.put,List.setIfInBounds_toArray,List.set_cons_zero,List.set_cons_succ]
    have HB5:Hid _:=hG.1
    have C5:Cells w5 ob [.int .i64 ta,.int .i64 tb,.int .i64 tc,.int .i64 ua,.int .i64 ub,.int .i64 uc,.int .i64 ud]:=hG.2.2.2
    have z0_:=(C5 0 _ rfl).1
    have z1_:=(C5 1 _ rfl).1
    have z2_:=(C5 2 _ rfl).1
    have z3_:=(C5 3 _ rfl).1
    have z4_:=(C5 4 _ rfl).1
    have z5_:=(C5 5 _ rfl).1
    have z6_:=(C5 6 _ rfl).1
    clear hG C5
    go_wp2
    exact bodyPost_ret (v:=.agg #[.int .i64 ta,.int .i64 tb,.int .i64 tc,.int .i64 ua,.int .i64 ub,.int .i64 uc,.int .i64 ud]) (by simp [results,Tryz.results7,go_sem,z0_,z1_,z2_,z3_,z4_,z5_,z6_]) rfl ⟨⟨ta,tb,tc⟩,⟨ua,ub,uc,ud⟩,rfl,HT.out,HQ9.out,HB5.out⟩
end
section
open Go.RowKit Go.Shelf
structure Came (t:Pt) (q:Q4) (P A E P2 A2 E2:List Pt):Prop where
 p:P2 = P.map ((rowsM q).ptV t)
 a:A2 = (rowsM q).dirs A
 e:E2 = (rowsM q).dirs E
 len:P2.length = P.length
 near:∀ p ∈ P2,p.inB 8388608 = true
theorem place_right (t:Pt) (q:Q4) (ht:t.inB 5497558138880 = true) (hw:WM.Whole q.w q.x q.y q.z) (P A E:List Pt) (h0:0 < P.length) (hP:∀ p ∈ P,p.inB 65536 = true) (hA:∀ p ∈ A,p ≠ Pt.O/\p.short = p) (hE:∀ p ∈ E,p ≠ Pt.O/\p.short = p) (nP:P.length < 1099511627776) (nA:A.length < 1099511627776) (nE:E.length < 1099511627776)
  (r:Int) (o o2 o3:Option Addr) (c c2 c3:Nat) (W:World) (l1:Lies W (.slice o P.length c) P) (l2:Lies W (.slice o2 A.length c2) A) (l3:Lies W (.slice o3 E.length c3) E) :
  Calls Tryz.prog 6 #[.agg #[.slice o P.length c,.slice o2 A.length c2,.slice o3 E.length c3,.int .i64 r],poseV t q] W fun e W'=>∃ (P2 A2 E2:List Pt) (vp va ve:Value),e = .returned (.tuple #[.agg #[vp,va,ve,.int .i64 r],.bool true])/\Three W W' vp va ve P2 A2 E2/\Came t q P A E P2 A2 E2:=by
 have hc:=place_any t q P A E r _ _ _ W l1 l2 l3 nP nA nE
 rw [place_ok hw ht h0 hP (fun p hp=>(short_g (hA p hp).1 (hA p hp).2).2) (fun p hp=>(short_g (hE p hp).1 (hE p hp).2).2)] at hc
 refine Calls.mono hc ?_
 rintro e W' ⟨vp,va,ve,_,h⟩
 obtain ⟨rfl,h3⟩:=h rfl
 refine ⟨_,_,_,vp,va,ve,rfl,h3,rfl,rfl,rfl,List.length_map _,fun p hp=>?_⟩
 obtain ⟨x,hx,rfl⟩:=List.mem_map.1 hp
 obtain ⟨_,_,_,_,_,e9⟩:=point_some (rows_fit hw).2 ht (hP x hx)
 exact e9
theorem Three.fill {w0 W:World} {vp va ve:Value} {P A E:List Pt} {b:Nat} {cs:Array Value} (h:Three w0 W vp va ve P A E) (hb:w0.heap.size <= b) (hx:W.heap[b]? = some (.cells cs 33 (0,0))) (v0 v1 v2 v3:Value):Three w0 (set4 W b v0 v1 v2 v3) vp va ve P A E:=by
 have hr:∀ {u:Value} {n:Nat} {xs:List Value},W.ownsRow w0.heap.size 23 3 u n xs->u.ownBlock ≠ some b:=fun h9 e=>by
  rcases h9.2 with ⟨rfl,_⟩ | ⟨g,cap,cur,rfl,_,hgb,_⟩
  ·cases e
  ·have:g = b:=by simpa [Value.ownBlock] using e
   subst this
   rw [hx] at hgb
   simp at hgb
 exact h.set hb (hr h.rp) (hr h.ra) (hr h.re) _ _ _ _
theorem Three.up {w0 w1 W:World} {vp va ve:Value} {P A E:List Pt} (h:Three w1 W vp va ve P A E) (hb:Below w0.heap.size w0 w1):Three w0 W vp va ve P A E:=
 ⟨own_le h.rp hb.size,own_le h.ra hb.size,own_le h.re hb.size,h.pa,h.pe,h.ae,hb.trans (h.below.mono hb.size)⟩
def cp0:Value->Value
 | .tuple vs=>vs.getD 0 undef
 | _=>undef
structure SG (X:World) (sr:Int) (Ps As Es:List Pt) (g2 g3 g4 g5 g7:Value) (l2 l3 l4 l5 l7 l8:Bool) (w:World):Prop where
 be:Below X.heap.size X w
 t3:l3 = true->∃ (P2 A2 E2:List Pt) (vp va ve:Value) (t:Pt) (q:Q4),g3 = .tuple #[.agg #[vp,va,ve,.int .i64 sr],.bool true]/\Three X w vp va ve P2 A2 E2/\Came t q Ps As Es P2 A2 E2
 m4:l4 = true->g4 = g3
 m5:l5 = true->g5 = cp0 g3
 pd:l7 = true->∃ b cs,g7 = .pointer (some ⟨b,0,none⟩)/\X.heap.size <= b/\w.heap[b]? = some (.cells cs 33 (0,0))/\cs.size = 4/\(l8 = true->l3 = true/\∀ vp va ve,g3 = .tuple #[.agg #[vp,va,ve,.int .i64 sr],.bool true]->cs = #[vp,va,ve,.int .i64 sr])
section
variable {X w w':World} {sr:Int} {Ps As Es:List Pt} {g2 g3 g4 g5 g7:Value} {l2 l3 l4 l5 l7 l8:Bool}
theorem SG.step (h:SG X sr Ps As Es g2 g3 g4 g5 g7 l2 l3 l4 l5 l7 l8 w) (hb:Below w.heap.size w w'):SG X sr Ps As Es g2 g3 g4 g5 g7 l2 l3 l4 l5 l7 l8 w':=by
 refine ⟨b_step h.be hb,fun e=>?_,h.m4,h.m5,fun e=>?_⟩
 ·obtain ⟨P2,A2,E2,vp,va,ve,t,q,x1,x2,x3⟩:=h.t3 e
  exact ⟨P2,A2,E2,vp,va,ve,t,q,x1,x2.step hb,x3⟩
 ·obtain ⟨b,cs,x1,x2,x3,x4,x5⟩:=h.pd e
  exact ⟨b,cs,x1,x2,(hb.block b (Array.getElem?_eq_some_iff.1 x3).1).trans x3,x4,x5⟩
theorem SG.got (h:SG X sr Ps As Es g2 g3 g4 g5 g7 l2 l3 l4 l5 l7 l8 w) (h4:l4 = false) (h5:l5 = false) (h8:l8 = false) {P2 A2 E2:List Pt} {vp va ve:Value} {t:Pt} {q:Q4} (hT:Three w w' vp va ve P2 A2 E2) (hC:Came t q Ps As Es P2 A2 E2) :
  SG X sr Ps As Es g2 (.tuple #[.agg #[vp,va,ve,.int .i64 sr],.bool true]) g4 g5 g7 l2 true l4 l5 l7 l8 w':=by
 have h9:=h.step hT.below
 refine ⟨h9.be,fun _=>⟨P2,A2,E2,vp,va,ve,t,q,rfl,hT.up h.be,hC⟩,fun e=>(by rw [h4] at e;cases e),fun e=>(by rw [h5] at e;cases e),fun e=>?_⟩
 obtain ⟨b,cs,x1,x2,x3,x4,_⟩:=h9.pd e
 exact ⟨b,cs,x1,x2,x3,x4,fun e=>(by rw [h8] at e;cases e)⟩
theorem SG.made (h:SG X sr Ps As Es g2 g3 g4 g5 g7 l2 l3 l4 l5 l7 l8 w) (h8:l8 = false):SG X sr Ps As Es g2 g3 g4 g5 (.pointer (some ⟨w.heap.size,0,none⟩)) l2 l3 l4 l5 true l8 (w.alloc (.cells #[.slice none 0 0,.slice none 0 0,.slice none 0 0,.int .i64 0] 33)):=by
 have h9:=h.step (n_after w (.cells #[.slice none 0 0,.slice none 0 0,.slice none 0 0,.int .i64 0] 33))
 exact ⟨h9.be,h9.t3,h9.m4,h9.m5,fun _=>⟨w.heap.size,_,rfl,h.be.size,heap_alloc_new _ _,rfl,fun e=>(by rw [h8] at e;cases e)⟩⟩
theorem SG.fill (h:SG X sr Ps As Es g2 g3 g4 g5 g7 l2 true l4 l5 true l8 w) {b:Nat} {cs:Array Value} (e7:g7 = .pointer (some ⟨b,0,none⟩)) (hb:X.heap.size <= b) (hx:w.heap[b]? = some (.cells cs 33 (0,0))) (hcs:cs.size = 4) {vp va ve:Value} (e3:g3 = .tuple #[.agg #[vp,va,ve,.int .i64 sr],.bool true]) :
  SG X sr Ps As Es g2 g3 g4 g5 g7 l2 true l4 l5 true true (set4 w b vp va ve (.int .i64 sr)):=by
 obtain ⟨q0,q1,q2,q3,rfl⟩:=arr4' hcs
 refine ⟨set4_below h.be hb _ _ _ _,fun _=>?_,h.m4,h.m5,fun _=>⟨b,#[vp,va,ve,.int .i64 sr],e7,hb,?_,rfl,fun _=>⟨rfl,fun vp' va' ve' e'=>?_⟩⟩⟩
 ·obtain ⟨P2,A2,E2,vp,va,ve,t,q,x1,x2,x3⟩:=h.t3 rfl
  exact ⟨P2,A2,E2,vp,va,ve,t,q,x1,x2.fill hb hx _ _ _ _,x3⟩
 ·have y0:=Go.heap_setCell_same w b 0 _ _ vp hx
  have y1:=Go.heap_setCell_same _ b 1 _ _ va y0
  have y2:=Go.heap_setCell_same _ b 2 _ _ ve y1
  have y3:=Go.heap_setCell_same _ b 3 _ _ (.int .i64 sr) y2
  simpa [set4] using y3
 ·rw [e3] at e'
  simp only [Value.tuple.injEq,Array.mk.injEq,List.cons.injEq,Value.agg.injEq,and_true] at e'
  obtain ⟨rfl,rfl,rfl⟩:=e'
  rfl
end
end
section
open Go.RowKit Go.Shelf
theorem cores6_same (vp va ve up ua ue:Value) (Pl A E:List Pt) (rd:Int) (w0:World) (p1:Lies w0 vp Pl) (a1:Lies w0 va A) (e1:Lies w0 ve E) (p2:Lies w0 up Pl) (a2:Lies w0 ua A) (e2:Lies w0 ue E) :
  Calls Tryz.prog 26 #[.agg #[vp,va,ve,.int .i64 rd],.agg #[up,ua,ue,.int .i64 rd]] w0 fun e W=>e = .returned (.bool true)/\Below w0.heap.size w0 W:=by
 have H1:Hid _:=fun w' (h:Below w0.heap.size w0 w')=>points_same6 vp up Pl w' (p1.below h) (p2.below h)
 have H2:Hid _:=fun w' (h:Below w0.heap.size w0 w')=>points_same6 va ua A w' (a1.below h) (a2.below h)
 have H3:Hid _:=fun w' (h:Below w0.heap.size w0 w')=>points_same6 ve ue E w' (e1.below h) (e2.below h)
 obtain ⟨o1,c1,rfl,_⟩:=p1.form
 obtain ⟨o2,c2,rfl,_⟩:=a1.form
 obtain ⟨o3,c3,rfl,_⟩:=e1.form
 obtain ⟨o4,c4,rfl,_⟩:=p2.form
 obtain ⟨o5,c5,rfl,_⟩:=a2.form
 obtain ⟨o6,c6,rfl,_⟩:=e2.form
 clear p1 a1 e1 p2 a2 e2
 have B1:Hid (Cells ((w0.alloc (.cells #[.slice o1 Pl.length c1,.slice o2 A.length c2,.slice o3 E.length c3,.int .i64 rd] 33)).alloc (.cells #[.slice o4 Pl.length c4,.slice o5 A.length c5,.slice o6 E.length c6,.int .i64 rd] 33)) w0.heap.size [.slice o1 Pl.length c1,.slice o2 A.length c2,.slice o3 E.length c3,.int .i64 rd]):=(Cells.new w0 [.slice o1 Pl.length c1,.slice o2 A.length c2,.slice o3 E.length c3,.int .i64 rd] _).step (n_after _ _)
 have B2:Hid (Cells ((w0.alloc (.cells #[.slice o1 Pl.length c1,.slice o2 A.length c2,.slice o3 E.length c3,.int .i64 rd] 33)).alloc (.cells #[.slice o4 Pl.length c4,.slice o5 A.length c5,.slice o6 E.length c6,.int .i64 rd] 33)) (w0.heap.size + 1) [.slice o4 Pl.length c4,.slice o5 A.length c5,.slice o6 E.length c6,.int .i64 rd]):=by have:=Cells.new (w0.alloc (.cells #[.slice o1 Pl.length c1,.slice o2 A.length c2,.slice o3 E.length c3,.int .i64 rd] 33)) [.slice o4 Pl.length c4,.slice o5 A.length c5,.slice o6 E.length c6,.int .i64 rd] 33;rwa [World.size_alloc] at this
 have hB:Hid (Below w0.heap.size w0 ((w0.alloc (.cells #[.slice o1 Pl.length c1,.slice o2 A.length c2,.slice o3 E.length c3,.int .i64 rd] 33)).alloc (.cells #[.slice o4 Pl.length c4,.slice o5 A.length c5,.slice o6 E.length c6,.int .i64 rd] 33))):=b_step (n_after w0 _) (n_after _ _)
 go_enter Tryz.func26,Tryz.ntmps26
 go_upto_region 1 with fail
 obtain ⟨V,hV⟩:∃ V:World,V = (w0.alloc (.cells #[.slice o1 Pl.length c1,.slice o2 A.length c2,.slice o3 E.length c3,.int .i64 rd] 33)).alloc (.cells #[.slice o4 Pl.length c4,.slice o5 A.length c5,.slice o6 E.length c6,.int .i64 rd] 33):=⟨_,rfl⟩
 rw [<- hV] at B1 B2 hB ⊢
 clear hV
 have s3:=(B1.out 3 _ rfl).1
 have t3:=(B2.out 3 _ rfl).1
 have s0:=(B1.out 0 _ rfl).1
 have t0:=(B2.out 0 _ rfl).1
 go_wp2_with (fail)
 refine Calls.mono (H1.out _ hB.out) ?_
 rintro e V1 ⟨rfl,h⟩
 have hB:Hid _:=b_step hB.out h
 have s1:=(Cells.step B1.out h 1 _ rfl).1
 have t1:=(Cells.step B2.out h 1 _ rfl).1
 have s2:=(Cells.step B1.out h 2 _ rfl).1
 have t2:=(Cells.step B2.out h 2 _ rfl).1
 clear s3 t3 s0 t0 h
 go_wp2_with (fail)
 refine Calls.mono (H2.out _ hB.out) ?_
 rintro e V2 ⟨rfl,h⟩
 have hB:Hid _:=b_step hB.out h
 have s2:=c_after h s2
 have t2:=c_after h t2
 clear s1 t1 h
 go_wp2_with (fail)
 refine Calls.mono (H3.out _ hB.out) ?_
 rintro e V3 ⟨rfl,h⟩
 have hB:Hid _:=b_step hB.out h
 clear s2 t2 h
 go_wp2_with (fail)
 go_ret
 exact ⟨rfl,hB.out⟩
end
section
open Go.RowKit Go.Shelf
def ball6:Sh:=⟨1,5,⟨0,0,0⟩,[]⟩
theorem ball6_ok:checkP ball6 = 0:=by decide +kernel
theorem ball6_pts:ptsP ball6 = [Pt.O]:=by decide +kernel
theorem ball6_axes:axesP ball6 = []:=by decide +kernel
theorem ball6_edges:edgesP ball6 = []:=by decide +kernel
theorem ex_ok:placeOk ⟨4294967296,0,-1⟩ ⟨4294967296,0,0,0⟩ [Pt.O] [] [] = true:=by decide +kernel
theorem ex_at:[Pt.O].map ((rowsM ⟨4294967296,0,0,0⟩).ptV ⟨4294967296,0,-1⟩) = [⟨4096,0,-1⟩]:=by decide +kernel
theorem ex_dirs:(rowsM ⟨4294967296,0,0,0⟩).dirs [] = []:=by decide +kernel
theorem ex_span:(spanP [⟨4096,0,-1⟩] 5).v = .agg #[.int .i64 4091,.int .i64 (-5),.int .i64 (-6),.int .i64 4101,.int .i64 5,.int .i64 4]:=by
 have e:spanP [⟨4096,0,-1⟩] 5 = ⟨⟨4091,-5,-6⟩,⟨4101,5,4⟩⟩:=by rfl
 rw [e];rfl
theorem lies_none (w:World):Lies w (.slice none 0 0) []:=⟨none,0,rfl,Nat.le_refl _,by omega,fun i hi=>by simp at hi⟩
theorem awake6_any (w0:World):Calls Tryz.prog 22 #[] w0 fun e W=>e = .returned (.bool true)/\Below w0.heap.size w0 W:=by
 have HC:Hid (Calls Tryz.prog 50 #[.agg #[.int .i64 1,.int .i64 5,.int .i64 0,.int .i64 0,.int .i64 0,.slice none 0 0]] w0 fun e W=>∃ o c o2 c2 o3 c3,e = .returned (.tuple #[.agg #[.slice o 1 c,.slice o2 0 c2,.slice o3 0 c3,.int .i64 5],.int .i64 0])/\Hid (Lies W (.slice o 1 c) [Pt.O]/\Lies W (.slice o2 0 c2) []/\Lies W (.slice o3 0 c3) [])/\Below w0.heap.size w0 W):=by
  have hc:=core_any ball6 (.slice none 0 0) w0 (lies_none _)
  rw [ball6_ok,ball6_pts,ball6_axes,ball6_edges] at hc
  unfold Sh.v at hc
  dsimp only [ball6] at hc
  refine Calls.mono hc ?_
  rintro e W ⟨vp,va,ve,_,h⟩
  obtain ⟨rfl,h3⟩:=h rfl
  obtain ⟨o1,c1,rfl⟩:=rowp_form h3.rp
  obtain ⟨o2,c2,rfl⟩:=rowp_form h3.ra
  obtain ⟨o3,c3,rfl⟩:=rowp_form h3.re
  exact ⟨o1,c1,o2,c2,o3,c3,rfl,⟨Lies.of_row h3.rp,Lies.of_row h3.ra,Lies.of_row h3.re⟩,h3.below⟩
 have HP:Hid (∀ o c o2 c2 o3 c3 (W:World),Lies W (.slice o 1 c) [Pt.O]->Lies W (.slice o2 0 c2) []->Lies W (.slice o3 0 c3) []->Calls Tryz.prog 6 #[.agg #[.slice o 1 c,.slice o2 0 c2,.slice o3 0 c3,.int .i64 5],.agg #[.int .i64 4294967296,.int .i64 0,.int .i64 (-1),.int .i64 4294967296,.int .i64 0,.int .i64 0,.int .i64 0]] W fun e W'=>∃ o c o2 c2 o3 c3,e = .returned (.tuple #[.agg #[.slice o 1 c,.slice o2 0 c2,.slice o3 0 c3,.int .i64 5],.bool true])/\Hid (Lies W' (.slice o 1 c) [⟨4096,0,-1⟩]/\Lies W' (.slice o2 0 c2) []/\Lies W' (.slice o3 0 c3) [])/\Below W.heap.size W W'):=by
  intro o c o2 c2 o3 c3 W l1 l2 l3
  have hc:=place_any ⟨4294967296,0,-1⟩ ⟨4294967296,0,0,0⟩ [Pt.O] [] [] 5 _ _ _ W l1 l2 l3 (by decide) (by decide) (by decide)
  rw [ex_ok,ex_at,ex_dirs] at hc
  unfold coreV poseV at hc
  dsimp only at hc
  refine Calls.mono hc ?_
  rintro e W ⟨vp,va,ve,_,h⟩
  obtain ⟨rfl,h3⟩:=h rfl
  obtain ⟨o1,c1,rfl⟩:=rowp_form h3.rp
  obtain ⟨o2,c2,rfl⟩:=rowp_form h3.ra
  obtain ⟨o3,c3,rfl⟩:=rowp_form h3.re
  exact ⟨o1,c1,o2,c2,o3,c3,rfl,⟨Lies.of_row h3.rp,Lies.of_row h3.ra,Lies.of_row h3.re⟩,h3.below⟩
 have HS:Hid (∀ o c o2 c2 o3 c3 (W:World),Lies W (.slice o 1 c) [⟨4096,0,-1⟩]->Lies W (.slice o2 0 c2) []->Lies W (.slice o3 0 c3) []->Calls Tryz.prog 28 #[.agg #[.slice o 1 c,.slice o2 0 c2,.slice o3 0 c3,.int .i64 5]] W fun e W'=>e = .returned (.agg #[.int .i64 4091,.int .i64 (-5),.int .i64 (-6),.int .i64 4101,.int .i64 5,.int .i64 4])/\Below W.heap.size W W'):=by
  intro o c o2 c2 o3 c3 W l1 l2 l3
  have hc:=span_any [⟨4096,0,-1⟩] [] [] 5 _ _ _ W l1 l2 l3
  rw [ex_span] at hc
  exact hc
 go_enter Tryz.func22,Tryz.ntmps22
 go_wp2_with (fail)
 refine Calls.mono HC.out ?_
 clear HC
 rintro e V1 ⟨o,c,o2,c2,o3,c3,rfl,HL,hb⟩
 have hB:Hid _:=b_step hb (n_after V1 (.cells #[.slice o 1 c,.slice o2 0 c2,.slice o3 0 c3,.int .i64 5] 33))
 have HL:Hid _:=And.intro (HL.out.1.below (n_after V1 (.cells #[.slice o 1 c,.slice o2 0 c2,.slice o3 0 c3,.int .i64 5] 33))) (And.intro (HL.out.2.1.below (n_after V1 (.cells #[.slice o 1 c,.slice o2 0 c2,.slice o3 0 c3,.int .i64 5] 33))) (HL.out.2.2.below (n_after V1 (.cells #[.slice o 1 c,.slice o2 0 c2,.slice o3 0 c3,.int .i64 5] 33))))
 clear hb
 go_wp2_with (fail)
 refine Calls.mono (HP.out _ _ _ _ _ _ _ HL.out.1 HL.out.2.1 HL.out.2.2) ?_
 clear HP HL
 rintro e V2 ⟨o,c,o2,c2,o3,c3,rfl,HL,hb⟩
 have hB:Hid _:=b_step (b_step hB.out hb) (n_after V2 (.cells #[.slice o 1 c,.slice o2 0 c2,.slice o3 0 c3,.int .i64 5] 33))
 have HL:Hid _:=And.intro (HL.out.1.below (n_after V2 (.cells #[.slice o 1 c,.slice o2 0 c2,.slice o3 0 c3,.int .i64 5] 33))) (And.intro (HL.out.2.1.below (n_after V2 (.cells #[.slice o 1 c,.slice o2 0 c2,.slice o3 0 c3,.int .i64 5] 33))) (HL.out.2.2.below (n_after V2 (.cells #[.slice o 1 c,.slice o2 0 c2,.slice o3 0 c3,.int .i64 5] 33))))
 have C1:Hid (Cells (V2.alloc (.cells #[.slice o 1 c,.slice o2 0 c2,.slice o3 0 c3,.int .i64 5] 33)) V2.heap.size [.slice o 1 c,.slice o2 0 c2,.slice o3 0 c3,.int .i64 5]):=Cells.new _ _ _
 clear hb
 go_wp2_with (fail)
 refine Calls.mono (HS.out _ _ _ _ _ _ _ HL.out.1 HL.out.2.1 HL.out.2.2) ?_
 clear HS
 rintro e V3 ⟨rfl,hb⟩
 have hB3:Hid _:=b_step (b_step hB.out hb) (n_after V3 (.cells #[.int .i64 4091,.int .i64 (-5),.int .i64 (-6),.int .i64 4101,.int .i64 5,.int .i64 4] 73))
 have hl2:V2.heap.size < V3.heap.size:=by have:=hb.size;simp at this;omega
 have z0:=((Cells.step C1.out hb) 0 _ rfl).1
 obtain ⟨o',c',e',_,_,hcell⟩:=(HL.out.1.below hb).form
 obtain ⟨g,off,e2,x0,x1,x2⟩:=hcell 0 (by decide)
 simp only [Value.slice.injEq] at e'
 rw [<- e'.1] at e2
 subst e2
 have hgl:g < V3.heap.size:=World.block_lt_of_cell? _ _ x0
 have x0:V3.cell? ⟨g,off,none⟩ = some (.int .i64 4096):=x0
 have x1:V3.cell? ⟨g,off + 1,none⟩ = some (.int .i64 0):=x1
 have x2:V3.cell? ⟨g,off + 2,none⟩ = some (.int .i64 (-1)):=x2
 clear hcell e' hb C1 HL
 go_wp2_with (fail)
 go_ret
 exact ⟨rfl,hB3.out⟩
end
section
open Go.RowKit Go.Shelf
theorem place_uni (t:Pt) (q:Q4) (Ps As Es:List Pt) (r:Int):∃ (P' A' E':List Pt) (r':Int) (ok:Bool),(ok = false->P' = []/\A' = []/\E' = []/\r' = 0)/\(ok = true->P' = Ps.map ((rowsM q).ptV t)/\A' = (rowsM q).dirs As/\E' = (rowsM q).dirs Es/\r' = r)/\ok = placeOk t q Ps As Es /\
  A'.length <= As.length /\
  ∀ (pv av ev:Value) (w0:World),Lies w0 pv Ps->Lies w0 av As->Lies w0 ev Es->Ps.length < 1099511627776->As.length < 1099511627776->Es.length < 1099511627776 ->
  (Calls Tryz.prog 6 #[coreV pv av ev r,poseV t q] w0 fun e W=>∃ vp va ve,e = .returned (.tuple #[.agg #[vp,va,ve,.int .i64 r'],.bool ok])/\Three w0 W vp va ve P' A' E') /\
  (Calls Tryz.prog 23 #[coreV pv av ev r,poseV t q] w0 fun e W=>∃ vp va ve,e = .returned (.tuple #[.agg #[vp,va,ve,.int .i64 r'],.bool ok])/\Three w0 W vp va ve P' A' E'):=by
 cases h:placeOk t q Ps As Es with
 | false =>
  refine ⟨[],[],[],0,false,fun _=>⟨rfl,rfl,rfl,rfl⟩,(fun h=>by cases h),rfl,by simp,fun pv av ev w0 h1 h2 h3 n1 n2 n3=>⟨?_,?_⟩⟩
  ·refine Calls.mono (place_any t q Ps As Es r pv av ev w0 h1 h2 h3 n1 n2 n3) ?_
   rintro e W ⟨vp,va,ve,k1,_⟩
   exact ⟨vp,va,ve,(k1 h).1,(k1 h).2⟩
  ·refine Calls.mono (rplace_any t q Ps As Es r pv av ev w0 h1 h2 h3 n1 n2 n3) ?_
   rintro e W ⟨vp,va,ve,k1,_⟩
   exact ⟨vp,va,ve,(k1 h).1,(k1 h).2⟩
 | true =>
  refine ⟨Ps.map ((rowsM q).ptV t),(rowsM q).dirs As,(rowsM q).dirs Es,r,true,(fun h=>by cases h),fun _=>⟨rfl,rfl,rfl,rfl⟩,rfl,?_,fun pv av ev w0 h1 h2 h3 n1 n2 n3=>⟨?_,?_⟩⟩
  ·exact Nat.le_trans (List.length_filter_le _ _) (by simp)
  ·refine Calls.mono (place_any t q Ps As Es r pv av ev w0 h1 h2 h3 n1 n2 n3) ?_
   rintro e W ⟨vp,va,ve,_,k1⟩
   exact ⟨vp,va,ve,(k1 h).1,(k1 h).2⟩
  ·refine Calls.mono (rplace_any t q Ps As Es r pv av ev w0 h1 h2 h3 n1 n2 n3) ?_
   rintro e W ⟨vp,va,ve,_,k1⟩
   exact ⟨vp,va,ve,(k1 h).1,(k1 h).2⟩
theorem grown_none {w W:World} (hg:w.grownBy W none):Below w.heap.size w W:=⟨hg.os,hg.tape,hg.output,hg.size,fun k hk=>hg.block k hk (fun e=>by cases e)⟩
def Wrt (X:World) (base b1 b2:Nat) (v:Value):Prop:=∃ o n c,v = .slice o n c/\n <= c/\c <= 9223372036854775807/\∀ i,i < n->∃ g,o = some ⟨g,0,none⟩/\base <= g/\g ≠ b1/\g ≠ b2/\(∃ z,X.cell? ⟨g,i * 3,none⟩ = some z)/\X.frozen? ⟨g,i * 3,none⟩ = false
theorem Wrt.put {X:World} {base b1 b2:Nat} {v:Value} (h:Wrt X base b1 b2 v) (g k:Nat) (u:Value):Wrt (X.setCell ⟨g,k,none⟩ u) base b1 b2 v:=by
 obtain ⟨o,n,c,rfl,hn,hc,h9⟩:=h
 refine ⟨o,n,c,rfl,hn,hc,fun i hi=>?_⟩
 obtain ⟨g',e,h1,h2,h3,⟨z,hz⟩,hf⟩:=h9 i hi
 refine ⟨g',e,h1,h2,h3,?_,by simp [go_sem,hf]⟩
 by_cases ea:(⟨g',i * 3,none⟩:Addr) = ⟨g,k,none⟩
 ·simp only [Addr.mk.injEq,and_true] at ea
  obtain ⟨e1,e2⟩:=ea
  subst e1
  subst e2
  exact ⟨u,by simp [go_sem,hz]⟩
 ·refine ⟨z,?_⟩
  simp only [Addr.mk.injEq,and_true] at ea
  by_cases e1:g' = g
  ·subst e1
   have e2:¬ i * 3 = k:=fun e2=>ea ⟨rfl,e2⟩
   simp [go_sem,hz]
  ·simp [go_sem,hz]
theorem Wrt.of_row {X:World} {base b1 b2:Nat} {v:Value} {L:List Pt} (h:X.ownsRow base 23 3 v L.length (fl3 L)) (h1:v.ownBlock ≠ some b1) (h2:v.ownBlock ≠ some b2):Wrt X base b1 b2 v:=by
 have hr:=h
 rcases h.2 with ⟨rfl,h0⟩ | ⟨g,cap,cur,rfl,hb,hg,k1,k2,k3,k4⟩
 ·exact ⟨none,0,0,rfl,Nat.le_refl _,by omega,fun i hi=>by omega⟩
 ·refine ⟨_,_,cap,rfl,k1,by unfold maxLen at k2;omega,fun i hi=>⟨g,rfl,hb,fun e=>h1 (by rw [<- e];rfl),fun e=>h2 (by rw [<- e];rfl),⟨_,(hr.cellAt (i * 3) (by omega)).trans (fl3_at L i hi).1⟩,by simp [World.frozen?,hg]⟩⟩
structure LS (Xc X:World) (mb:Nat) (mc:List Value) (ab:Nat) (ac:List Value) (v1 v2 v3:Value):Prop where
 be:Below Xc.heap.size Xc X
 cm:Cells X mb mc
 ca:Cells X ab ac
 w1:Wrt X Xc.heap.size mb ab v1
 w2:Wrt X Xc.heap.size mb ab v2
 w3:Wrt X Xc.heap.size mb ab v3
theorem LS.put {Xc X:World} {mb:Nat} {mc:List Value} {ab:Nat} {ac:List Value} {v1 v2 v3:Value} (h:LS Xc X mb mc ab ac v1 v2 v3) {g:Nat} (hg:Xc.heap.size <= g) (h1:g ≠ mb) (h2:g ≠ ab) (k:Nat) (u:Value):LS Xc (X.setCell ⟨g,k,none⟩ u) mb mc ab ac v1 v2 v3:=
 ⟨h.be.setCell hg _,h.cm.apart (Ne.symm h1) _ _,h.ca.apart (Ne.symm h2) _ _,h.w1.put _ _ _,h.w2.put _ _ _,h.w3.put _ _ _⟩
theorem Wrt.at {X:World} {base b1 b2:Nat} {o:Option Addr} {n c i:Nat} (h:Wrt X base b1 b2 (.slice o n c)) (hi:i < n):∃ g,o = some ⟨g,0,none⟩/\base <= g/\g ≠ b1/\g ≠ b2/\(∃ z,X.cell? ⟨g,i * 3,none⟩ = some z)/\X.frozen? ⟨g,i * 3,none⟩ = false:=by
 obtain ⟨o',n',c',e,_,_,h9⟩:=h
 simp only [Value.slice.injEq] at e
 obtain ⟨rfl,rfl,rfl⟩:=e
 exact h9 i hi
end
section
open Go.RowKit Go.Shelf
theorem start3 (w0:World) (l1 l2 l3:List Value) (t1 t2 t3:TypeId) :
  Cells (((w0.alloc (.cells l1.toArray t1)).alloc (.cells l2.toArray t2)).alloc (.cells l3.toArray t3)) w0.heap.size l1/\Cells (((w0.alloc (.cells l1.toArray t1)).alloc (.cells l2.toArray t2)).alloc (.cells l3.toArray t3)) (w0.heap.size + 1) l2/\Cells (((w0.alloc (.cells l1.toArray t1)).alloc (.cells l2.toArray t2)).alloc (.cells l3.toArray t3)) (w0.heap.size + 1 + 1) l3/\Below w0.heap.size w0 (((w0.alloc (.cells l1.toArray t1)).alloc (.cells l2.toArray t2)).alloc (.cells l3.toArray t3)):=by
 have c1:=((Cells.new w0 l1 t1).step (n_after _ (.cells l2.toArray t2))).step (n_after _ (.cells l3.toArray t3))
 have c2:=(Cells.new (w0.alloc (.cells l1.toArray t1)) l2 t2).step (n_after _ (.cells l3.toArray t3))
 have c3:=Cells.new ((w0.alloc (.cells l1.toArray t1)).alloc (.cells l2.toArray t2)) l3 t3
 simp only [World.size_alloc] at c2 c3
 exact ⟨c1,c2,c3,b_step (b_step (n_after _ _) (n_after _ _)) (n_after _ _)⟩
theorem places_any (t:Pt) (q:Q4) (y:Pt) (Ps As Es:List Pt) (r:Int) (pv av ev:Value) (w0:World) (hp:Lies w0 pv Ps) (ha:Lies w0 av As) (he:Lies w0 ev Es) (hN:Ps.length + As.length + Es.length < 4611686018427387904) :
  Calls Tryz.prog 8 #[coreV pv av ev r,poseV t q,y.v] w0 fun e W=>e = .returned (.bool true)/\Below w0.heap.size w0 W:=by
 obtain ⟨opv,cpv,rfl,hlc,hcm,_⟩:=hp.form
 obtain ⟨oav,cav,rfl,hlca,hcma,_⟩:=ha.form
 obtain ⟨oev,cev,rfl,hlce,hcme,_⟩:=he.form
 have HAW:Hid _:=fun w'=>awake6_any w'
 obtain ⟨P',A',E',r',ok,z1_,z2_,z3_,hA',hU⟩:=place_uni t q Ps As Es r
 clear z1_ z2_ z3_
 have HPU:Hid _:=hU
 clear hU
 have HMV:Hid _:=fun (w':World) (h1:Lies w' (.slice opv Ps.length cpv) Ps) (h2:Lies w' (.slice oav As.length cav) As) (h3:Lies w' (.slice oev Es.length cev) Es)=>moved_any y Ps As Es r _ _ _ w' h1 h2 h3
 have HMR:Hid _:=fun (w':World) (h1:Lies w' (.slice opv Ps.length cpv) Ps) (h2:Lies w' (.slice oav As.length cav) As) (h3:Lies w' (.slice oev Es.length cev) Es)=>rmoved_any y Ps As Es r _ _ _ w' h1 h2 h3
 have HSP0:Hid _:=fun (w':World) (h1:Lies w' (.slice opv Ps.length cpv) Ps) (h2:Lies w' (.slice oav As.length cav) As) (h3:Lies w' (.slice oev Es.length cev) Es)=>span_any Ps As Es r _ _ _ w' h1 h2 h3
 have HSR0:Hid _:=fun (w':World) (h1:Lies w' (.slice opv Ps.length cpv) Ps) (h2:Lies w' (.slice oav As.length cav) As) (h3:Lies w' (.slice oev Es.length cev) Es)=>rspan_any Ps As Es r _ _ _ w' h1 h2 h3
 generalize spanP Ps r = bx at HSP0 HSR0
 obtain ⟨⟨s0_,s1_,s2_⟩,⟨s3_,s4_,s5_⟩⟩:=bx
 unfold Bx.v at HSP0 HSR0
 dsimp only at HSP0 HSR0
 have HML:Hid ((Ps.map (fun p=>p.plus y)).length = Ps.length):=List.length_map _
 generalize Ps.map (fun p=>p.plus y) = Pm at *
 obtain ⟨tx,ty,tz⟩:=t
 obtain ⟨qw,qx,qy,qz⟩:=q
 obtain ⟨yx,yy,yz⟩:=y
 have LP:Hid _:=hp
 have LA:Hid _:=ha
 have LE:Hid _:=he
 clear hp ha he
 have HS3:Hid _:=start3 w0 [.slice opv Ps.length cpv,.slice oav As.length cav,.slice oev Es.length cev,.int .i64 r] [.int .i64 tx,.int .i64 ty,.int .i64 tz,.int .i64 qw,.int .i64 qx,.int .i64 qy,.int .i64 qz] [.int .i64 yx,.int .i64 yy,.int .i64 yz] 33 41 23
 unfold coreV poseV Pt.v at *
 dsimp only at *
 obtain ⟨n1,e1⟩:∃ n,IntKind.i64.wrap ((Ps.length:Int) + (As.length:Int)) = n:=⟨_,rfl⟩
 obtain ⟨n2,e2⟩:∃ n,IntKind.i64.wrap (n1 + (Es.length:Int)) = n:=⟨_,rfl⟩
 have hn1:n1 = ((Ps.length + As.length:Nat):Int):=by rw [<- e1,IntKind.wrap_i64];omega
 have hn2:n2 = ((Ps.length + As.length + Es.length:Nat):Int):=by rw [<- e2,hn1,IntKind.wrap_i64];omega
 have HN2:Hid _:=hn2
 clear hn1 hn2
 go_enter Tryz.func8,Tryz.ntmps8
 go_upto_region 1 with fail
 obtain ⟨W1,hW1⟩:∃ X,X = ((w0.alloc (.cells #[.slice opv Ps.length cpv,.slice oav As.length cav,.slice oev Es.length cev,.int .i64 r] 33)).alloc (.cells #[.int .i64 tx,.int .i64 ty,.int .i64 tz,.int .i64 qw,.int .i64 qx,.int .i64 qy,.int .i64 qz] 41)).alloc (.cells #[.int .i64 yx,.int .i64 yy,.int .i64 yz] 23):=⟨_,rfl⟩
 obtain ⟨cb,hcb⟩:∃ b,b = w0.heap.size:=⟨_,rfl⟩
 obtain ⟨pb,hpb⟩:∃ b,b = w0.heap.size + 1:=⟨_,rfl⟩
 obtain ⟨yb,hyb⟩:∃ b,b = w0.heap.size + 1 + 1:=⟨_,rfl⟩
 rw [<- hW1,<- hyb,<- hpb] at HS3
 have CC:Hid (Cells W1 cb [.slice opv Ps.length cpv,.slice oav As.length cav,.slice oev Es.length cev,.int .i64 r]):=by show Cells _ _ _;rw [hcb];exact HS3.out.1
 have CP:Hid (Cells W1 pb [.int .i64 tx,.int .i64 ty,.int .i64 tz,.int .i64 qw,.int .i64 qx,.int .i64 qy,.int .i64 qz]):=HS3.out.2.1
 have CY:Hid (Cells W1 yb [.int .i64 yx,.int .i64 yy,.int .i64 yz]):=HS3.out.2.2.1
 have BX:Hid (Below w0.heap.size w0 W1):=HS3.out.2.2.2
 rw [<- hW1,<- hyb,<- hpb,<- hcb]
 clear hW1 hcb hpb hyb HS3
 have hb:=BX.out
 have LP:Hid _:=Lies.below LP.out hb
 have LA:Hid _:=Lies.below LA.out hb
 have LE:Hid _:=Lies.below LE.out hb
 clear hb
 go_wp2_with (fail)
 refine Calls.mono (HAW.out _) ?_
 rintro e V1 ⟨rfl,hb⟩
 have BX:Hid _:=b_step BX.out hb
 have CC:Hid _:=Cells.step CC.out hb
 have CP:Hid _:=Cells.step CP.out hb
 have CY:Hid _:=Cells.step CY.out hb
 have LP:Hid _:=Lies.below LP.out hb
 have LA:Hid _:=Lies.below LA.out hb
 have LE:Hid _:=Lies.below LE.out hb
 clear hb HAW
 have k0:=(CC.out 0 _ rfl).1
 have k1:=(CC.out 1 _ rfl).1
 have k2:=(CC.out 2 _ rfl).1
 by_cases hgt:200 < n2
 ·go_wp2_with (fail)
  go_ret
  exact ⟨rfl,BX.out⟩
 ·have hl1:Ps.length <= 200:=by have:=HN2.out;omega
  have hl2:As.length <= 200:=by have:=HN2.out;omega
  have hl3:Es.length <= 200:=by have:=HN2.out;omega
  go_upto_region 4 with fail
  clear k0 k1 k2 hgt e1 e2 HN2 hN
  have k4:=(CC.out 0 _ rfl).1
  go_upto_region 5 with (at_builtin;refine append_lies rfl _ _ rfl V1.heap.size _ [] rfl (World.ownsRow_nil _ _ _ _) _ Ps rfl LP.out (by simp;omega) (Nat.le_refl _) ?_;intro u4 X1 r4 g4 s4;obtain ⟨o4,c4,e4⟩:=rowp_form r4;subst e4)
  have r4':X1.ownsRow V1.heap.size 23 3 (.slice o4 Ps.length c4) Ps.length (fl3 Ps):=by simpa using r4
  have hb:=grown_none g4
  have BX:Hid _:=b_step BX.out hb
  have CC:Hid _:=Cells.step CC.out hb
  have CP:Hid _:=Cells.step CP.out hb
  have CY:Hid _:=Cells.step CY.out hb
  have LP:Hid _:=Lies.below LP.out hb
  have LA:Hid _:=Lies.below LA.out hb
  have LE:Hid _:=Lies.below LE.out hb
  have LU:Hid _:=Lies.of_row r4'
  clear hb r4 r4' g4 s4 k4
  have k5:=(CC.out 1 _ rfl).1
  go_upto_region 6 with (at_builtin;refine append_lies rfl _ _ rfl X1.heap.size _ [] rfl (World.ownsRow_nil _ _ _ _) _ As rfl LA.out (by simp;omega) (Nat.le_refl _) ?_;intro u5 X2 r5 g5 s5;obtain ⟨o5,c5,e5⟩:=rowp_form r5;subst e5)
  have r5':X2.ownsRow X1.heap.size 23 3 (.slice o5 As.length c5) As.length (fl3 As):=by simpa using r5
  have hb:=grown_none g5
  have BX:Hid _:=b_step BX.out hb
  have CC:Hid _:=Cells.step CC.out hb
  have CP:Hid _:=Cells.step CP.out hb
  have CY:Hid _:=Cells.step CY.out hb
  have LP:Hid _:=Lies.below LP.out hb
  have LA:Hid _:=Lies.below LA.out hb
  have LE:Hid _:=Lies.below LE.out hb
  have LU:Hid _:=Lies.below LU.out hb
  have LV:Hid _:=Lies.of_row r5'
  clear hb r5 r5' g5 s5 k5
  have k6:=(CC.out 2 _ rfl).1
  go_upto_region 7 with (at_builtin;refine append_lies rfl _ _ rfl X2.heap.size _ [] rfl (World.ownsRow_nil _ _ _ _) _ Es rfl LE.out (by simp;omega) (Nat.le_refl _) ?_;intro u6 X3 r6 g6 s6;obtain ⟨o6,c6,e6⟩:=rowp_form r6;subst e6)
  have r6':X3.ownsRow X2.heap.size 23 3 (.slice o6 Es.length c6) Es.length (fl3 Es):=by simpa using r6
  have hb:=grown_none g6
  have BX:Hid _:=b_step BX.out hb
  have CC:Hid _:=Cells.step CC.out hb
  have CP:Hid _:=Cells.step CP.out hb
  have CY:Hid _:=Cells.step CY.out hb
  have LP:Hid _:=Lies.below LP.out hb
  have LA:Hid _:=Lies.below LA.out hb
  have LE:Hid _:=Lies.below LE.out hb
  have LU:Hid _:=Lies.below LU.out hb
  have LV:Hid _:=Lies.below LV.out hb
  have LW:Hid _:=Lies.of_row r6'
  clear hb r6 r6' g6 s6 k6
  obtain ⟨Xc,hXc⟩:∃ X,X = X3:=⟨_,rfl⟩
  have DC:Hid _:=CC
  have DP:Hid _:=LP
  have DA:Hid _:=LA
  have DE:Hid _:=LE
  have DX:Hid _:=BX
  have BC:Hid (Below Xc.heap.size Xc X3):=by show Below _ _ _;rw [hXc];exact Below.refl _ _
  rw [<- hXc] at DC DP DA DE LU LV LW DX
  have hcx:Xc.heap.size <= X3.heap.size:=by rw [hXc];exact Nat.le_refl _
  clear hXc BX
  have k0:=(CC.out 0 _ rfl).1
  have k1:=(CC.out 1 _ rfl).1
  have k2:=(CC.out 2 _ rfl).1
  have k3:=(CC.out 3 _ rfl).1
  have p0:=(CP.out 0 _ rfl).1
  have p1:=(CP.out 1 _ rfl).1
  have p2:=(CP.out 2 _ rfl).1
  have p3:=(CP.out 3 _ rfl).1
  have p4:=(CP.out 4 _ rfl).1
  have p5:=(CP.out 5 _ rfl).1
  have p6:=(CP.out 6 _ rfl).1
  have HC1:Hid _:=(HPU.out (.slice opv Ps.length cpv) (.slice oav As.length cav) (.slice oev Es.length cev) X3 LP.out LA.out LE.out (by omega) (by omega) (by omega)).1
  go_wp2_with (fail)
  refine Calls.mono HC1.out ?_
  rintro e Y1 ⟨vp,va,ve,rfl,hT⟩
  have hb:=hT.below
  have CC:Hid _:=Cells.step CC.out hb
  have CP:Hid _:=Cells.step CP.out hb
  have CY:Hid _:=Cells.step CY.out hb
  have LP:Hid _:=Lies.below LP.out hb
  have LA:Hid _:=Lies.below LA.out hb
  have LE:Hid _:=Lies.below LE.out hb
  have BC:Hid _:=b_step BC.out hb
  obtain ⟨oap,cap,rfl⟩:=rowp_form hT.rp
  obtain ⟨oaa,caa,rfl⟩:=rowp_form hT.ra
  obtain ⟨oae,cae,rfl⟩:=rowp_form hT.re
  have RAp:Hid _:=hT.rp
  have RAa:Hid _:=hT.ra
  have RAe:Hid _:=hT.re
  have hs1:X3.heap.size <= Y1.heap.size:=hb.size
  clear hT hb HC1 k0 k1 k2 k3 p0 p1 p2 p3 p4 p5 p6
  go_upto_region 8 with fail
  obtain ⟨X4,hX⟩:∃ X,X = Y1.alloc (.cells #[.slice oap P'.length cap,.slice oaa A'.length caa,.slice oae E'.length cae,.int .i64 r'] 33):=⟨_,rfl⟩
  obtain ⟨ab,hbx⟩:∃ b,b = Y1.heap.size:=⟨_,rfl⟩
  have CA:Hid (Cells X4 ab [.slice oap P'.length cap,.slice oaa A'.length caa,.slice oae E'.length cae,.int .i64 r']):=by show Cells _ _ _;rw [hX,hbx];exact Cells.new Y1 _ _
  have hb9:Below Y1.heap.size Y1 X4:=by rw [hX];exact n_after _ _
  have NA1:Hid (∀ b,(Value.slice oaa A'.length caa).ownBlock = some b->b < ab):=fun b e=>by rw [hbx];exact (World.ownsRow.lt RAa.out b e).2
  have CC:Hid _:=Cells.step CC.out hb9
  have CP:Hid _:=Cells.step CP.out hb9
  have CY:Hid _:=Cells.step CY.out hb9
  have LP:Hid _:=Lies.below LP.out hb9
  have LA:Hid _:=Lies.below LA.out hb9
  have LE:Hid _:=Lies.below LE.out hb9
  have BC:Hid _:=b_step BC.out hb9
  have RAp:Hid _:=own_below RAp.out hb9
  have RAa:Hid _:=own_below RAa.out hb9
  have RAe:Hid _:=own_below RAe.out hb9
  rw [<- hX,<- hbx]
  clear hX hb9 hbx
  have k0:=(CC.out 0 _ rfl).1
  have k1:=(CC.out 1 _ rfl).1
  have k2:=(CC.out 2 _ rfl).1
  have k3:=(CC.out 3 _ rfl).1
  have p0:=(CP.out 0 _ rfl).1
  have p1:=(CP.out 1 _ rfl).1
  have p2:=(CP.out 2 _ rfl).1
  have p3:=(CP.out 3 _ rfl).1
  have p4:=(CP.out 4 _ rfl).1
  have p5:=(CP.out 5 _ rfl).1
  have p6:=(CP.out 6 _ rfl).1
  have HC1:Hid _:=(HPU.out (.slice opv Ps.length cpv) (.slice oav As.length cav) (.slice oev Es.length cev) X4 LP.out LA.out LE.out (by omega) (by omega) (by omega)).2
  go_wp2_with (fail)
  refine Calls.mono HC1.out ?_
  rintro e Y2 ⟨vp,va,ve,rfl,hT⟩
  have hb:=hT.below
  have CC:Hid _:=Cells.step CC.out hb
  have CP:Hid _:=Cells.step CP.out hb
  have CY:Hid _:=Cells.step CY.out hb
  have LP:Hid _:=Lies.below LP.out hb
  have LA:Hid _:=Lies.below LA.out hb
  have LE:Hid _:=Lies.below LE.out hb
  have BC:Hid _:=b_step BC.out hb
  have CA:Hid _:=Cells.step CA.out hb
  have RAp:Hid _:=own_below RAp.out hb
  have RAa:Hid _:=own_below RAa.out hb
  have RAe:Hid _:=own_below RAe.out hb
  obtain ⟨obp,cbp,rfl⟩:=rowp_form hT.rp
  obtain ⟨oba,cba,rfl⟩:=rowp_form hT.ra
  obtain ⟨obe,cbe,rfl⟩:=rowp_form hT.re
  have RBp:Hid _:=hT.rp
  have RBa:Hid _:=hT.ra
  have RBe:Hid _:=hT.re
  have hs2:ab < Y2.heap.size:=Cells.lt CA.out
  clear hT hb HC1 k0 k1 k2 k3 p0 p1 p2 p3 p4 p5 p6 HPU
  go_upto_region 9 with fail
  obtain ⟨X5,hX⟩:∃ X,X = Y2.alloc (.cells #[.slice obp P'.length cbp,.slice oba A'.length cba,.slice obe E'.length cbe,.int .i64 r'] 33):=⟨_,rfl⟩
  obtain ⟨bb,hbx⟩:∃ b,b = Y2.heap.size:=⟨_,rfl⟩
  have CB:Hid (Cells X5 bb [.slice obp P'.length cbp,.slice oba A'.length cba,.slice obe E'.length cbe,.int .i64 r']):=by show Cells _ _ _;rw [hX,hbx];exact Cells.new Y2 _ _
  have hb9:Below Y2.heap.size Y2 X5:=by rw [hX];exact n_after _ _
  have CC:Hid _:=Cells.step CC.out hb9
  have CP:Hid _:=Cells.step CP.out hb9
  have CY:Hid _:=Cells.step CY.out hb9
  have LP:Hid _:=Lies.below LP.out hb9
  have LA:Hid _:=Lies.below LA.out hb9
  have LE:Hid _:=Lies.below LE.out hb9
  have BC:Hid _:=b_step BC.out hb9
  have CA:Hid _:=Cells.step CA.out hb9
  have RAp:Hid _:=own_below RAp.out hb9
  have RAa:Hid _:=own_below RAa.out hb9
  have RAe:Hid _:=own_below RAe.out hb9
  have RBp:Hid _:=own_below RBp.out hb9
  have RBa:Hid _:=own_below RBa.out hb9
  have RBe:Hid _:=own_below RBe.out hb9
  rw [<- hX,<- hbx]
  clear hX hb9 hbx
  have hs5:ab < X5.heap.size:=Cells.lt CA.out
  have hcx5:Xc.heap.size <= X5.heap.size:=BC.out.size
  have k0:=(CC.out 0 _ rfl).1
  have k1:=(CC.out 1 _ rfl).1
  have k2:=(CC.out 2 _ rfl).1
  have k3:=(CC.out 3 _ rfl).1
  have p0:=(CY.out 0 _ rfl).1
  have p1:=(CY.out 1 _ rfl).1
  have p2:=(CY.out 2 _ rfl).1
  have HC1:Hid _:=HMV.out X5 LP.out LA.out LE.out (by omega) (by omega) (by omega)
  go_wp2_with (fail)
  refine Calls.mono HC1.out ?_
  rintro e Y3 ⟨vp,va,ve,rfl,hT⟩
  have hb:=hT.below
  have CC:Hid _:=Cells.step CC.out hb
  have CP:Hid _:=Cells.step CP.out hb
  have CY:Hid _:=Cells.step CY.out hb
  have LP:Hid _:=Lies.below LP.out hb
  have LA:Hid _:=Lies.below LA.out hb
  have LE:Hid _:=Lies.below LE.out hb
  have BC:Hid _:=b_step BC.out hb
  have CA:Hid _:=Cells.step CA.out hb
  have CB:Hid _:=Cells.step CB.out hb
  have RAp:Hid _:=own_below RAp.out hb
  have RAa:Hid _:=own_below RAa.out hb
  have RAe:Hid _:=own_below RAe.out hb
  have RBp:Hid _:=own_below RBp.out hb
  have RBa:Hid _:=own_below RBa.out hb
  have RBe:Hid _:=own_below RBe.out hb
  obtain ⟨omp,cmp,rfl⟩:=rowp_form hT.rp
  obtain ⟨oma,cma,rfl⟩:=rowp_form hT.ra
  obtain ⟨ome,cme,rfl⟩:=rowp_form hT.re
  have RMp:Hid _:=hT.rp
  have RMa:Hid _:=hT.ra
  have RMe:Hid _:=hT.re
  have hs3:bb < Y3.heap.size:=Cells.lt CB.out
  have hs4:X5.heap.size <= Y3.heap.size:=hb.size
  clear hT hb HC1 k0 k1 k2 k3 p0 p1 p2
  go_upto_region 10 with fail
  obtain ⟨X6,hX⟩:∃ X,X = Y3.alloc (.cells #[.slice omp Pm.length cmp,.slice oma As.length cma,.slice ome Es.length cme,.int .i64 r] 33):=⟨_,rfl⟩
  obtain ⟨mb,hbx⟩:∃ b,b = Y3.heap.size:=⟨_,rfl⟩
  have CM:Hid (Cells X6 mb [.slice omp Pm.length cmp,.slice oma As.length cma,.slice ome Es.length cme,.int .i64 r]):=by show Cells _ _ _;rw [hX,hbx];exact Cells.new Y3 _ _
  have hb9:Below Y3.heap.size Y3 X6:=by rw [hX];exact n_after _ _
  have NM1:Hid (∀ b,(Value.slice omp Pm.length cmp).ownBlock = some b->b < mb/\ab < b):=fun b e=>by
   rw [hbx]
   have h7:=World.ownsRow.lt RMp.out b e
   omega
  have NM2:Hid (∀ b,(Value.slice oma As.length cma).ownBlock = some b->b < mb/\ab < b):=fun b e=>by
   rw [hbx]
   have h7:=World.ownsRow.lt RMa.out b e
   omega
  have NA2:Hid (∀ b,(Value.slice oaa A'.length caa).ownBlock = some b->b < mb):=fun b e=>by rw [hbx];exact (World.ownsRow.lt RAa.out b e).2
  have CC:Hid _:=Cells.step CC.out hb9
  have CP:Hid _:=Cells.step CP.out hb9
  have CY:Hid _:=Cells.step CY.out hb9
  have LP:Hid _:=Lies.below LP.out hb9
  have LA:Hid _:=Lies.below LA.out hb9
  have LE:Hid _:=Lies.below LE.out hb9
  have BC:Hid _:=b_step BC.out hb9
  have CA:Hid _:=Cells.step CA.out hb9
  have CB:Hid _:=Cells.step CB.out hb9
  have RAp:Hid _:=own_below RAp.out hb9
  have RAa:Hid _:=own_below RAa.out hb9
  have RAe:Hid _:=own_below RAe.out hb9
  have RBp:Hid _:=own_below RBp.out hb9
  have RBa:Hid _:=own_below RBa.out hb9
  have RBe:Hid _:=own_below RBe.out hb9
  have RMp:Hid _:=own_below RMp.out hb9
  have RMa:Hid _:=own_below RMa.out hb9
  have RMe:Hid _:=own_below RMe.out hb9
  rw [<- hX,<- hbx]
  clear hX hb9 hbx
  have k0:=(CC.out 0 _ rfl).1
  have k1:=(CC.out 1 _ rfl).1
  have k2:=(CC.out 2 _ rfl).1
  have k3:=(CC.out 3 _ rfl).1
  have p0:=(CY.out 0 _ rfl).1
  have p1:=(CY.out 1 _ rfl).1
  have p2:=(CY.out 2 _ rfl).1
  have HC1:Hid _:=HMR.out X6 LP.out LA.out LE.out (by omega) (by omega) (by omega)
  go_wp2_with (fail)
  refine Calls.mono HC1.out ?_
  rintro e Y4 ⟨vp,va,ve,rfl,hT⟩
  have hb:=hT.below
  have CC:Hid _:=Cells.step CC.out hb
  have CP:Hid _:=Cells.step CP.out hb
  have CY:Hid _:=Cells.step CY.out hb
  have LP:Hid _:=Lies.below LP.out hb
  have LA:Hid _:=Lies.below LA.out hb
  have LE:Hid _:=Lies.below LE.out hb
  have BC:Hid _:=b_step BC.out hb
  have CA:Hid _:=Cells.step CA.out hb
  have CB:Hid _:=Cells.step CB.out hb
  have CM:Hid _:=Cells.step CM.out hb
  have RAp:Hid _:=own_below RAp.out hb
  have RAa:Hid _:=own_below RAa.out hb
  have RAe:Hid _:=own_below RAe.out hb
  have RBp:Hid _:=own_below RBp.out hb
  have RBa:Hid _:=own_below RBa.out hb
  have RBe:Hid _:=own_below RBe.out hb
  have RMp:Hid _:=own_below RMp.out hb
  have RMa:Hid _:=own_below RMa.out hb
  have RMe:Hid _:=own_below RMe.out hb
  obtain ⟨onp,cnp,rfl⟩:=rowp_form hT.rp
  obtain ⟨ona,cna,rfl⟩:=rowp_form hT.ra
  obtain ⟨one,cne,rfl⟩:=rowp_form hT.re
  have RNp:Hid _:=hT.rp
  have RNa:Hid _:=hT.ra
  have RNe:Hid _:=hT.re
  have hs6:mb < Y4.heap.size:=Cells.lt CM.out
  clear hT hb HC1 k0 k1 k2 k3 p0 p1 p2 HMV HMR
  go_upto_region 11 with fail
  obtain ⟨X7,hX⟩:∃ X,X = Y4.alloc (.cells #[.slice onp Pm.length cnp,.slice ona As.length cna,.slice one Es.length cne,.int .i64 r] 33):=⟨_,rfl⟩
  obtain ⟨nb,hbx⟩:∃ b,b = Y4.heap.size:=⟨_,rfl⟩
  have CN:Hid (Cells X7 nb [.slice onp Pm.length cnp,.slice ona As.length cna,.slice one Es.length cne,.int .i64 r]):=by show Cells _ _ _;rw [hX,hbx];exact Cells.new Y4 _ _
  have hb9:Below Y4.heap.size Y4 X7:=by rw [hX];exact n_after _ _
  have CC:Hid _:=Cells.step CC.out hb9
  have CP:Hid _:=Cells.step CP.out hb9
  have CY:Hid _:=Cells.step CY.out hb9
  have LP:Hid _:=Lies.below LP.out hb9
  have LA:Hid _:=Lies.below LA.out hb9
  have LE:Hid _:=Lies.below LE.out hb9
  have BC:Hid _:=b_step BC.out hb9
  have CA:Hid _:=Cells.step CA.out hb9
  have CB:Hid _:=Cells.step CB.out hb9
  have CM:Hid _:=Cells.step CM.out hb9
  have RAp:Hid _:=own_below RAp.out hb9
  have RAa:Hid _:=own_below RAa.out hb9
  have RAe:Hid _:=own_below RAe.out hb9
  have RBp:Hid _:=own_below RBp.out hb9
  have RBa:Hid _:=own_below RBa.out hb9
  have RBe:Hid _:=own_below RBe.out hb9
  have RMp:Hid _:=own_below RMp.out hb9
  have RMa:Hid _:=own_below RMa.out hb9
  have RMe:Hid _:=own_below RMe.out hb9
  have RNp:Hid _:=own_below RNp.out hb9
  have RNa:Hid _:=own_below RNa.out hb9
  have RNe:Hid _:=own_below RNe.out hb9
  rw [<- hX,<- hbx]
  clear hX hb9 hbx
  have ca0_:=(CA.out 0 _ rfl).1
  have ca1_:=(CA.out 1 _ rfl).1
  have ca2_:=(CA.out 2 _ rfl).1
  have ca3_:=(CA.out 3 _ rfl).1
  have cb_0_:=(CB.out 0 _ rfl).1
  have cb_1_:=(CB.out 1 _ rfl).1
  have cb_2_:=(CB.out 2 _ rfl).1
  have cb_3_:=(CB.out 3 _ rfl).1
  have cm0_:=(CM.out 0 _ rfl).1
  have cm1_:=(CM.out 1 _ rfl).1
  have cm2_:=(CM.out 2 _ rfl).1
  have cm3_:=(CM.out 3 _ rfl).1
  have cn0_:=(CN.out 0 _ rfl).1
  have cn1_:=(CN.out 1 _ rfl).1
  have cn2_:=(CN.out 2 _ rfl).1
  have cn3_:=(CN.out 3 _ rfl).1
  have LAp:Hid _:=Lies.of_row RAp.out
  have LAa:Hid _:=Lies.of_row RAa.out
  have LAe:Hid _:=Lies.of_row RAe.out
  have LBp:Hid _:=Lies.of_row RBp.out
  have LBa:Hid _:=Lies.of_row RBa.out
  have LBe:Hid _:=Lies.of_row RBe.out
  have LMp:Hid _:=Lies.of_row RMp.out
  have LMa:Hid _:=Lies.of_row RMa.out
  have LMe:Hid _:=Lies.of_row RMe.out
  have LNp:Hid _:=Lies.of_row RNp.out
  have LNa:Hid _:=Lies.of_row RNa.out
  have LNe:Hid _:=Lies.of_row RNe.out
  go_cut [17] from 62 to 69 (fun s17 wx=>s17 = .bool true/\Hid (Below X7.heap.size X7 wx))
  case first =>
   clear HSP0 HSR0 DC DP DA DE DX LU LV LW RAp RAa RAe RBp RBa RBe RMp RMa RMe RNp RNa RNe CC CP CY LP LA LE BC NM1 NM2 NA1 NA2
   have HC1:Hid _:=cores6_same (.slice oap P'.length cap) (.slice oaa A'.length caa) (.slice oae E'.length cae) (.slice obp P'.length cbp) (.slice oba A'.length cba) (.slice obe E'.length cbe) P' A' E' r' X7 LAp.out LAa.out LAe.out LBp.out LBa.out LBe.out
   go_wp2_with (fail)
   refine Calls.mono HC1.out ?_
   rintro e V7 ⟨rfl,hb⟩
   have cm0_:=c_after hb cm0_
   have cm1_:=c_after hb cm1_
   have cm2_:=c_after hb cm2_
   have cm3_:=c_after hb cm3_
   have cn0_:=c_after hb cn0_
   have cn1_:=c_after hb cn1_
   have cn2_:=c_after hb cn2_
   have cn3_:=c_after hb cn3_
   have HC2:Hid _:=cores6_same (.slice omp Pm.length cmp) (.slice oma As.length cma) (.slice ome Es.length cme) (.slice onp Pm.length cnp) (.slice ona As.length cna) (.slice one Es.length cne) Pm As Es r V7 (Lies.below LMp.out hb) (Lies.below LMa.out hb) (Lies.below LMe.out hb) (Lies.below LNp.out hb) (Lies.below LNa.out hb) (Lies.below LNe.out hb)
   go_wp2_with (fail)
   refine Calls.mono HC2.out ?_
   rintro e V8 ⟨rfl,hb2⟩
   have HZ:Hid _:=b_step hb hb2
   clear hb hb2
   go_wp2_with (fail)
   go_meet
   case rel=>exact ⟨rfl,HZ⟩
  case rest =>
   obtain ⟨rfl,HZ⟩:=hcut
   have HLS:Hid (LS Xc wc mb [.slice omp Pm.length cmp,.slice oma As.length cma,.slice ome Es.length cme,.int .i64 r] ab [.slice oap P'.length cap,.slice oaa A'.length caa,.slice oae E'.length cae,.int .i64 r'] (.slice omp Pm.length cmp) (.slice oma As.length cma) (.slice oaa A'.length caa)):=⟨b_step BC.out HZ.out,Cells.step CM.out HZ.out,Cells.step CA.out HZ.out,Wrt.of_row (own_le (own_below RMp.out HZ.out) hcx5) (fun e=>by have h7:=NM1.out _ e;omega) (fun e=>by have h7:=NM1.out _ e;omega),Wrt.of_row (own_le (own_below RMa.out HZ.out) hcx5) (fun e=>by have h7:=NM2.out _ e;omega) (fun e=>by have h7:=NM2.out _ e;omega),Wrt.of_row (own_le (own_below RAa.out HZ.out) hcx) (fun e=>by have h7:=NA2.out _ e;omega) (fun e=>by have h7:=NA1.out _ e;omega)⟩
   clear HZ ca0_ ca1_ ca2_ ca3_ cb_0_ cb_1_ cb_2_ cb_3_ cm0_ cm1_ cm2_ cm3_ cn0_ cn1_ cn2_ cn3_ LAp LAa LAe LBp LBa LBe LMp LMa LMe LNp LNa LNe RAp RAa RAe RBp RBa RBe RMp RMa RMe RNp RNa RNe CC CP CY LP LA LE BC CA CB CM CN NM1 NM2 NA1 NA2 hs1 hs2 hs3 hs4 hs5 hs6 hcx hcx5
   have hpl:Pm.length <= 200:=by have:=HML.out;omega
   have hal:A'.length <= 200:=by omega
   clear HML hA'
   go_wp2_with (fail)
   go_loopg [18] Pm.length (fun gm s18 wr=>∃ i:Nat,s18 = .int .i64 (i:Int)/\i <= Pm.length/\gm = Pm.length - i/\Hid (LS Xc wr mb [.slice omp Pm.length cmp,.slice oma As.length cma,.slice ome Es.length cme,.int .i64 r] ab [.slice oap P'.length cap,.slice oaa A'.length caa,.slice oae E'.length cae,.int .i64 r'] (.slice omp Pm.length cmp) (.slice oma As.length cma) (.slice oaa A'.length caa)))
   case atStart=>exact ⟨0,rfl,Nat.zero_le _,rfl,HLS⟩
   case round =>
    clear HLS
    obtain ⟨i,rfl,hi,hgm,HLS⟩:=hrel
    have HG1:Hid _:=hgm
    clear hgm
    have m0:=(HLS.out.cm 0 _ rfl).1
    by_cases hit:i < Pm.length
    ·obtain ⟨g7,e7,h7,h8,h9,⟨z7,hz7⟩,hf7⟩:=Wrt.at HLS.out.w1 hit
     subst e7
     go_wp2_with (fail)
     go_roundg (Pm.length - (i + 1))
     case rel=>exact ⟨i + 1,rfl,by omega,rfl,HLS.out.put h7 h8 h9 _ _⟩
     case measure=>have:=HG1.out;omega
    ·obtain rfl:i = Pm.length:=by omega
     clear hit hi HG1
     go_wp2_with (fail)
     go_loopg [19] As.length (fun gm s19 wr=>∃ i:Nat,s19 = .int .i64 (i:Int)/\i <= As.length/\gm = As.length - i/\Hid (LS Xc wr mb [.slice omp Pm.length cmp,.slice oma As.length cma,.slice ome Es.length cme,.int .i64 r] ab [.slice oap P'.length cap,.slice oaa A'.length caa,.slice oae E'.length cae,.int .i64 r'] (.slice omp Pm.length cmp) (.slice oma As.length cma) (.slice oaa A'.length caa)))
     case atStart=>exact ⟨0,rfl,Nat.zero_le _,rfl,HLS⟩
     case round =>
      clear HLS
      obtain ⟨i,rfl,hi,hgm,HLS⟩:=hrel
      have HG1:Hid _:=hgm
      clear hgm
      have m0:=(HLS.out.cm 1 _ rfl).1
      by_cases hit:i < As.length
      ·obtain ⟨g7,e7,h7,h8,h9,⟨z7,hz7⟩,hf7⟩:=Wrt.at HLS.out.w2 hit
       subst e7
       go_wp2_with (fail)
       go_roundg (As.length - (i + 1))
       case rel=>exact ⟨i + 1,rfl,by omega,rfl,HLS.out.put h7 h8 h9 _ _⟩
       case measure=>have:=HG1.out;omega
      ·obtain rfl:i = As.length:=by omega
       clear hit hi HG1
       go_wp2_with (fail)
       go_loopg [20] A'.length (fun gm s20 wr=>∃ i:Nat,s20 = .int .i64 (i:Int)/\i <= A'.length/\gm = A'.length - i/\Hid (LS Xc wr mb [.slice omp Pm.length cmp,.slice oma As.length cma,.slice ome Es.length cme,.int .i64 r] ab [.slice oap P'.length cap,.slice oaa A'.length caa,.slice oae E'.length cae,.int .i64 r'] (.slice omp Pm.length cmp) (.slice oma As.length cma) (.slice oaa A'.length caa)))
       case atStart=>exact ⟨0,rfl,Nat.zero_le _,rfl,HLS⟩
       case round =>
        clear HLS
        obtain ⟨i,rfl,hi,hgm,HLS⟩:=hrel
        have HG1:Hid _:=hgm
        clear hgm
        have m0:=(HLS.out.ca 1 _ rfl).1
        by_cases hit:i < A'.length
        ·obtain ⟨g7,e7,h7,h8,h9,⟨z7,hz7⟩,hf7⟩:=Wrt.at HLS.out.w3 hit
         subst e7
         go_wp2_with (fail)
         go_roundg (A'.length - (i + 1))
         case rel=>exact ⟨i + 1,rfl,by omega,rfl,HLS.out.put h7 h8 h9 _ _⟩
         case measure=>have:=HG1.out;omega
        ·obtain rfl:i = A'.length:=by omega
         clear hit hi HG1
         go_upto_region 24 with fail
         obtain ⟨Yf,hYf⟩:∃ X:World,X = wr:=⟨_,rfl⟩
         rw [<- hYf] at HLS ⊢
         clear hYf
         have hbe:=HLS.out.be
         have EU:Hid _:=Lies.below LU.out hbe
         have EV:Hid _:=Lies.below LV.out hbe
         have EW:Hid _:=Lies.below LW.out hbe
         have EP:Hid _:=Lies.below DP.out hbe
         have EA:Hid _:=Lies.below DA.out hbe
         have EE:Hid _:=Lies.below DE.out hbe
         have EX:Hid _:=b_step DX.out hbe
         have EC:Hid _:=Cells.step DC.out hbe
         have cc0_:=(EC.out 0 _ rfl).1
         have cc1_:=(EC.out 1 _ rfl).1
         have cc2_:=(EC.out 2 _ rfl).1
         have cc3_:=(EC.out 3 _ rfl).1
         clear hbe HLS DC DP DA DE DX LU LV LW EC
         refine RV.rs [.some (.bool (true)),.some (.bool (true)),.some (.bool (true)),.some (.bool (true)),.some (.bool (true)),.some (.bool (ok)),.some (.bool (ok)),.some (.bool (true)),.some (.bool (true)),.some (.bool (true)),.some (.slice o4 Ps.length c4),.some (.pointer (some ⟨cb,0,none⟩)),.some (.slice opv Ps.length cpv),.some (.bool (true)),.some (.bool (true)),.some (.bool (true)),.some (.slice o5 As.length c5),.some (.pointer (some ⟨cb,1,none⟩)),.some (.slice oav As.length cav),.some (.bool (true)),.some (.bool (true)),.some (.bool (true)),.some (.slice o6 Es.length c6),.some (.pointer (some ⟨cb,2,none⟩)),.some (.slice oev Es.length cev),.some (.bool (true)),.some (.bool (true)),.some (.bool (true)),.some (.agg #[.slice opv Ps.length cpv,.slice oav As.length cav,.slice oev Es.length cev,.int .i64 r]),.some (.agg #[.int .i64 s0_,.int .i64 s1_,.int .i64 s2_,.int .i64 s3_,.int .i64 s4_,.int .i64 s5_]),.some (.agg #[.slice opv Ps.length cpv,.slice oav As.length cav,.slice oev Es.length cev,.int .i64 r]),.some (.agg #[.int .i64 s0_,.int .i64 s1_,.int .i64 s2_,.int .i64 s3_,.int .i64 s4_,.int .i64 s5_]),.some (.bool (true)),.some (.bool (true)),.some (.bool (true))] [107,108,109,110,111,112,113,114,115,116,117,118,119,120,121,122,123,124,125,126,127,128,129,130,131,132,133,134,135,136,137,138,139,140,7] [(3,.pointer (some ⟨cb,0,none⟩)),(7,.bool (true)),(8,.slice o4 Ps.length c4),(9,.slice o5 As.length c5),(10,.slice o6 Es.length c6),(12,.bool (ok)),(14,.bool (ok)),(17,.bool (true))] (fun γ L w9=>Below Yf.heap.size Yf w9) ⟨rfl,rfl,rfl,rfl,rfl,rfl,rfl,rfl,trivial⟩ ?_ ?_ ?_
         ·exact (Below.refl _ Yf).drew
         ·intro D WA Z hD hWA hZ T
          simp only [RV.Outs,RV.Slots,Nat.reduceAdd] at T
          iterate 13 first
           | (refine RV.cc _ (RV.pu T (fun γ v L w hl h=>h) (fun γ L a w hH hl h9 k9=>⟨_,?_,rfl⟩)) ?_;· simp [execOp,go_sem,h9])
           | (refine RV.cc _ (RV.dg rfl (by rw [<- hD];rfl) (fun v w h=>h) (by simp) (RV.pu T (fun γ v L w hl h=>h) (fun γ L a w hH hl h9 k9=>⟨_,?_,rfl⟩))) ?_;· simp [execOp,go_sem,h9])
           | (refine RV.cc _ (RV.pu T (fun γ v L w hl h=>h) (fun γ L a w hH hl h9 k9=>⟨_,?_,rfl⟩)) ?_;· simp [Region.binds] at k9;simp [execOp,go_sem,h9,k9])
           | (refine RV.cc _ (RV.dg rfl (by rw [<- hD];rfl) (fun v w h=>h) (by simp) (RV.pu T (fun γ v L w hl h=>h) (fun γ L a w hH hl h9 k9=>⟨_,?_,rfl⟩))) ?_;· simp [Region.binds] at k9;simp [execOp,go_sem,h9,k9])
           | (refine RV.cc _ (RV.dg rfl (by rw [<- hD];rfl) (fun v w h=>h) (by simp) (RV.pu T (fun γ v L w hl h=>h) (fun γ L a w hH hl h9 k9=>⟨_,?_,rfl⟩))) ?_;· have hB9:=hH.glob;have q0:=c_after hB9 cc0_;simp [Region.binds] at k9;simp [execOp,go_sem,h9,k9,q0])
          refine RV.cc _ (RV.dg rfl (by rw [<- hD];rfl) (fun v w h=>h) (by simp) (RV.dc (fun γ L a w hH hl hA=>by have h9:=T γ L a w hH;have k9:=hA;simp [Region.binds] at k9;have hB9:=hH.glob;exact ⟨27,#[.slice o4 Ps.length c4,.slice opv Ps.length cpv],by simp [go_sem,h9,k9],Calls.mono (points_same6 _ _ Ps w (Lies.below EU.out hB9) (Lies.below EP.out hB9)) (by rintro e w2 ⟨rfl,hb⟩;exact ⟨_,rfl,rfl,fun j v _ h=>h.keep _,hB9.trans (hb.mono hB9.size)⟩)⟩))) ?_
          iterate 5 first
           | (refine RV.cc _ (RV.dg rfl (by rw [<- hD];rfl) (fun v w h=>h) (by simp) (RV.pu T (fun γ v L w hl h=>h) (fun γ L a w hH hl h9 k9=>⟨_,?_,rfl⟩))) ?_;· simp [execOp,go_sem,h9])
           | (refine RV.cc _ (RV.pu T (fun γ v L w hl h=>h) (fun γ L a w hH hl h9 k9=>⟨_,?_,rfl⟩)) ?_;· simp [Region.binds] at k9;simp [execOp,go_sem,h9,k9])
           | (refine RV.cc _ (RV.dg rfl (by rw [<- hD];rfl) (fun v w h=>h) (by simp) (RV.pu T (fun γ v L w hl h=>h) (fun γ L a w hH hl h9 k9=>⟨_,?_,rfl⟩))) ?_;· have hB9:=hH.glob;have q0:=c_after hB9 cc1_;simp [Region.binds] at k9;simp [execOp,go_sem,h9,k9,q0])
          refine RV.cc _ (RV.dg rfl (by rw [<- hD];rfl) (fun v w h=>h) (by simp) (RV.dc (fun γ L a w hH hl hA=>by have h9:=T γ L a w hH;have k9:=hA;simp [Region.binds] at k9;have hB9:=hH.glob;exact ⟨27,#[.slice o5 As.length c5,.slice oav As.length cav],by simp [go_sem,h9,k9],Calls.mono (points_same6 _ _ As w (Lies.below EV.out hB9) (Lies.below EA.out hB9)) (by rintro e w2 ⟨rfl,hb⟩;exact ⟨_,rfl,rfl,fun j v _ h=>h.keep _,hB9.trans (hb.mono hB9.size)⟩)⟩))) ?_
          iterate 5 first
           | (refine RV.cc _ (RV.dg rfl (by rw [<- hD];rfl) (fun v w h=>h) (by simp) (RV.pu T (fun γ v L w hl h=>h) (fun γ L a w hH hl h9 k9=>⟨_,?_,rfl⟩))) ?_;· simp [execOp,go_sem,h9])
           | (refine RV.cc _ (RV.pu T (fun γ v L w hl h=>h) (fun γ L a w hH hl h9 k9=>⟨_,?_,rfl⟩)) ?_;· simp [Region.binds] at k9;simp [execOp,go_sem,h9,k9])
           | (refine RV.cc _ (RV.dg rfl (by rw [<- hD];rfl) (fun v w h=>h) (by simp) (RV.pu T (fun γ v L w hl h=>h) (fun γ L a w hH hl h9 k9=>⟨_,?_,rfl⟩))) ?_;· have hB9:=hH.glob;have q0:=c_after hB9 cc2_;simp [Region.binds] at k9;simp [execOp,go_sem,h9,k9,q0])
          refine RV.cc _ (RV.dg rfl (by rw [<- hD];rfl) (fun v w h=>h) (by simp) (RV.dc (fun γ L a w hH hl hA=>by have h9:=T γ L a w hH;have k9:=hA;simp [Region.binds] at k9;have hB9:=hH.glob;exact ⟨27,#[.slice o6 Es.length c6,.slice oev Es.length cev],by simp [go_sem,h9,k9],Calls.mono (points_same6 _ _ Es w (Lies.below EW.out hB9) (Lies.below EE.out hB9)) (by rintro e w2 ⟨rfl,hb⟩;exact ⟨_,rfl,rfl,fun j v _ h=>h.keep _,hB9.trans (hb.mono hB9.size)⟩)⟩))) ?_
          iterate 3 first
           | (refine RV.cc _ (RV.pu T (fun γ v L w hl h=>h) (fun γ L a w hH hl h9 k9=>⟨_,?_,rfl⟩)) ?_;· simp [Region.binds] at k9;simp [execOp,go_sem,h9,k9])
           | (refine RV.cc _ (RV.dg rfl (by rw [<- hD];rfl) (fun v w h=>h) (by simp) (RV.pu T (fun γ v L w hl h=>h) (fun γ L a w hH hl h9 k9=>⟨_,?_,rfl⟩))) ?_;· have hB9:=hH.glob;have q0:=c_after hB9 cc0_;have q1:=c_after hB9 cc1_;have q2:=c_after hB9 cc2_;have q3:=c_after hB9 cc3_;simp [execOp,go_sem,h9,q0,q1,q2,q3])
          refine RV.cc _ (RV.dg rfl (by rw [<- hD];rfl) (fun v w h=>h) (by simp) (RV.dc (fun γ L a w hH hl hA=>by have h9:=T γ L a w hH;have k9:=hA;simp [Region.binds] at k9;have hB9:=hH.glob;exact ⟨28,#[.agg #[.slice opv Ps.length cpv,.slice oav As.length cav,.slice oev Es.length cev,.int .i64 r]],by simp [go_sem,h9,k9],Calls.mono (HSP0.out w (Lies.below EP.out hB9) (Lies.below EA.out hB9) (Lies.below EE.out hB9)) (by rintro e w2 ⟨rfl,hb⟩;exact ⟨_,rfl,rfl,fun j v _ h=>h.keep _,hB9.trans (hb.mono hB9.size)⟩)⟩))) ?_
          (refine RV.cc _ (RV.dg rfl (by rw [<- hD];rfl) (fun v w h=>h) (by simp) (RV.pu T (fun γ v L w hl h=>h) (fun γ L a w hH hl h9 k9=>⟨_,?_,rfl⟩))) ?_;· have hB9:=hH.glob;have q0:=c_after hB9 cc0_;have q1:=c_after hB9 cc1_;have q2:=c_after hB9 cc2_;have q3:=c_after hB9 cc3_;simp [execOp,go_sem,h9,q0,q1,q2,q3])
          refine RV.cc _ (RV.dg rfl (by rw [<- hD];rfl) (fun v w h=>h) (by simp) (RV.dc (fun γ L a w hH hl hA=>by have h9:=T γ L a w hH;have k9:=hA;simp [Region.binds] at k9;have hB9:=hH.glob;exact ⟨29,#[.agg #[.slice opv Ps.length cpv,.slice oav As.length cav,.slice oev Es.length cev,.int .i64 r]],by simp [go_sem,h9,k9],Calls.mono (HSR0.out w (Lies.below EP.out hB9) (Lies.below EA.out hB9) (Lies.below EE.out hB9)) (by rintro e w2 ⟨rfl,hb⟩;exact ⟨_,rfl,rfl,fun j v _ h=>h.keep _,hB9.trans (hb.mono hB9.size)⟩)⟩))) ?_
          iterate 3 first
           | (refine RV.cc _ (RV.dg rfl (by rw [<- hD];rfl) (fun v w h=>h) (by simp) (RV.pu T (fun γ v L w hl h=>h) (fun γ L a w hH hl h9 k9=>⟨_,?_,rfl⟩))) ?_;· simp [Region.binds] at k9;simp [execOp,go_sem,h9,k9])
           | (refine RV.cc _ (RV.pu T (fun γ v L w hl h=>h) (fun γ L a w hH hl h9 k9=>⟨_,?_,rfl⟩)) ?_;· simp [Region.binds] at k9;simp [execOp,go_sem,h9,k9])
          exact RV.AllDo.nil
         ·intro γ w5 L9 hL hI9 hG9
          have hb8:=hG9
          clear hL hI9 hG9
          simp only [RV.putL,Act.put,List.setIfInBounds_toArray,List.set_cons_zero,List.set_cons_succ]
          have HE:Hid _:=b_step EX.out hb8
          go_wp2_with (fail)
          go_ret
          exact ⟨rfl,HE.out⟩
end
end Go.Proofs.YtlhhmiicpddjoaaGreat
