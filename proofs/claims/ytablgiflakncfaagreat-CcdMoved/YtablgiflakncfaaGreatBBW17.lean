/- Raw poses made right. -/
import Derived.Test.YtablgiflakncfaaGreatBBW0
import Derived.Test.YtablgiflakncfaaGreatBBW13
import Derived.Test.YtablgiflakncfaaGreatBBW8
import Derived.Test.YtablgiflakncfaaGreatBBW16
import Derived.Test.YtablgiflakncfaaGreatBBW14
set_option maxHeartbeats 8000000
set_option maxRecDepth 100000
set_option linter.unusedVariables false
namespace Go.Proofs.YtablgiflakncfaaGreat
section
open Go.RowKit Go.Shelf Fx
theorem pick6_any (c n:Int) (w:World) (hc:-9223372036854775808 <= c/\c <= 9223372036854775807) (hn:0 < n) (hn':n <= 9223372036854775807) :
  Calls Tryz.prog 138 #[.int .i64 c,.int .i64 n] w fun e w'=>e = .returned (.int .i64 (pickZ c n))/\w' = w:=by
 unfold pickZ
 by_cases h:c < 0
 ·have hb:0 <= -(c + 1):=by omega
  have hb':-(c + 1) <= 9223372036854775807:=by omega
  have hz:(n == 0) = false:=beq_eq_false_iff_ne.2 (by omega)
  rw [if_pos h]
  go_enter Tryz.func138,Tryz.ntmps138
  go_wp2
  go_ret
  have e:(c + 1).tmod n = -(-(c + 1) % n):=by
   rw [<- Int.tmod_eq_emod_of_nonneg hb,Int.neg_tmod,Int.neg_neg]
  exact ⟨by rw [e,Int.neg_neg];rfl,rfl⟩
 ·have hz:(n == 0) = false:=beq_eq_false_iff_ne.2 (by omega)
  rw [if_neg h]
  go_enter Tryz.func138,Tryz.ntmps138
  go_wp2
  go_ret
  exact ⟨rfl,rfl⟩
def partZ (n m:Int):Int:=pickZ n (2 * m + 1) - m
theorem partZ_in (n:Int) {m:Int} (hm:0 <= m):-m <= partZ n m/\partZ n m <= m:=by
 have h1:=pickZ_lo n (n:=2 * m + 1) (by omega)
 have h2:=pickZ_hi n (n:=2 * m + 1) (by omega)
 unfold partZ;omega
theorem part6_any (n m:Int) (w:World) (hn:-9223372036854775808 <= n/\n <= 9223372036854775807) (hm:0 <= m/\m <= 4611686018427387903) :
  Calls Tryz.prog 103 #[.int .i64 n,.int .i64 m] w fun e w'=>e = .returned (.int .i64 (partZ n m))/\w' = w:=by
 have HP:Hid _:=fun w'=>pick6_any n (2 * m + 1) w' hn (by omega) (by omega)
 have h1:=pickZ_lo n (n:=2 * m + 1) (by omega)
 have h2:=pickZ_hi n (n:=2 * m + 1) (by omega)
 unfold partZ
 generalize pickZ n (2 * m + 1) = pz at *
 have e1:IntKind.i64.wrap (2 * m) = 2 * m:=by rw [IntKind.wrap_i64];omega
 have e2:IntKind.i64.wrap (2 * m + 1) = 2 * m + 1:=by rw [IntKind.wrap_i64];omega
 have e3:IntKind.i64.wrap (pz - m) = pz - m:=by rw [IntKind.wrap_i64];omega
 go_enter Tryz.func103,Tryz.ntmps103
 go_wp2_with (fail)
 refine Calls.mono (HP.out _) ?_
 rintro e w' ⟨rfl,rfl⟩
 go_wp2_with (fail)
 go_ret
 exact ⟨rfl,rfl⟩
def Q4.v (q:Q4):Value:=.agg #[.int .i64 q.w,.int .i64 q.x,.int .i64 q.y,.int .i64 q.z]
def wholeN (q:Q4):Int:=(norm [q.w,q.x,q.y,q.z]).getD 0
def wholeB (q:Q4):Bool:=wholeBad q.w q.x q.y q.z
def wholeQ (q:Q4):Q4:=⟨cond (wholeB q) 0 ((ratio q.w 4294967296 (wholeN q)).getD 0),cond (wholeB q) 0 ((ratio q.x 4294967296 (wholeN q)).getD 0),cond (wholeB q) 0 ((ratio q.y 4294967296 (wholeN q)).getD 0),cond (wholeB q) 0 ((ratio q.z 4294967296 (wholeN q)).getD 0)⟩
theorem whole6_any (b off:Nat) (f:Bool) (q:Q4) (W:World) (hc:W.cell? ⟨b,off,none⟩ = some (.bool f)) (hf:W.frozen? ⟨b,off,none⟩ = false) :
  Calls Tryz.prog 102 #[.pointer (some ⟨b,off,none⟩),q.v] W fun e W'=>e = .returned (wholeQ q).v/\Hid (After ⟨b,off,none⟩ (f || wholeB q) W W'):=by
 refine Calls.mono (rvwhole_law b off f q.w q.x q.y q.z W hc hf) ?_
 rintro e W' ⟨v0,v1,v2,v3,g,rfl,SS,A⟩
 obtain ⟨rfl,rfl,rfl,rfl,rfl⟩:=SS.out
 exact ⟨rfl,A⟩
theorem whole6_is {q:Q4} (h:wholeB q = false):WM.Whole (wholeQ q).w (wholeQ q).x (wholeQ q).y (wholeQ q).z:=by
 have hn:2147483648 <= wholeN q:=by
  have h9:=h
  unfold wholeB wholeBad at h9
  simp only [Bool.or_eq_false_iff,decide_eq_false_iff_not] at h9
  have:=h9.1
  unfold wholeN
  omega
 cases hx:norm [q.w,q.x,q.y,q.z] with
 | none=>unfold wholeN at hn;rw [hx] at hn;simp at hn
 | some n =>
  have en:wholeN q = n:=by unfold wholeN;rw [hx];rfl
  rw [en] at hn
  obtain ⟨a,b,c,d,l,e1,e2,e3,e4,_,_,_,k1,k2,k3,k4,k5,k6⟩:=WM.whole_long hx hn
  unfold wholeQ
  rw [h,en,e1,e2,e3,e4]
  exact ⟨k1,k2,k3,k4,k5,k6⟩
theorem right6_any (at0 at1 at2 qa qb_ qc qd:Int) (w0:World) (f0:-9223372036854775808 <= at0/\at0 <= 9223372036854775807) (f1:-9223372036854775808 <= at1/\at1 <= 9223372036854775807) (f2:-9223372036854775808 <= at2/\at2 <= 9223372036854775807) (f3:-9223372036854775808 <= qa/\qa <= 9223372036854775807) (f4:-9223372036854775808 <= qb_/\qb_ <= 9223372036854775807) (f5:-9223372036854775808 <= qc/\qc <= 9223372036854775807) (f6:-9223372036854775808 <= qd/\qd <= 9223372036854775807) :
  Calls Tryz.prog 58 #[.agg #[.int .i64 at0,.int .i64 at1,.int .i64 at2,.int .i64 qa,.int .i64 qb_,.int .i64 qc,.int .i64 qd]] w0 fun e W=>∃ (t:Pt) (q:Q4),e = .returned (poseV t q)/\t.inB 4398046511104 = true/\WM.Whole q.w q.x q.y q.z/\Below w0.heap.size w0 W:=by
 have HP0:Hid _:=fun w'=>part6_any qa 1099511627776 w' f3 (by decide)
 have HP1:Hid _:=fun w'=>part6_any qb_ 1099511627776 w' f4 (by decide)
 have HP2:Hid _:=fun w'=>part6_any qc 1099511627776 w' f5 (by decide)
 have HP3:Hid _:=fun w'=>part6_any qd 1099511627776 w' f6 (by decide)
 have HA0:Hid _:=fun w'=>part6_any at0 4398046511104 w' f0 (by decide)
 have HA1:Hid _:=fun w'=>part6_any at1 4398046511104 w' f1 (by decide)
 have HA2:Hid _:=fun w'=>part6_any at2 4398046511104 w' f2 (by decide)
 have HT:Hid (Pt.inB ⟨partZ at0 4398046511104,partZ at1 4398046511104,partZ at2 4398046511104⟩ 4398046511104 = true):=(Pt.inB_iff _ _).2 ⟨partZ_in _ (by decide),partZ_in _ (by decide),partZ_in _ (by decide)⟩
 generalize partZ at0 4398046511104 = ta at *
 generalize partZ at1 4398046511104 = tb at *
 generalize partZ at2 4398046511104 = tc at *
 generalize partZ qa 1099511627776 = pw at *
 generalize partZ qb_ 1099511627776 = px at *
 generalize partZ qc 1099511627776 = py at *
 generalize partZ qd 1099511627776 = pz at *
 have HW:Hid _:=fun (b:Nat) (w:World) (f:Bool)=>whole6_any b 0 f ⟨pw,px,py,pz⟩ w
 have HI:Hid (wholeB ⟨pw,px,py,pz⟩ = false->WM.Whole (wholeQ ⟨pw,px,py,pz⟩).w (wholeQ ⟨pw,px,py,pz⟩).x (wholeQ ⟨pw,px,py,pz⟩).y (wholeQ ⟨pw,px,py,pz⟩).z):=whole6_is
 generalize wholeQ ⟨pw,px,py,pz⟩ = vq at *
 generalize wholeB ⟨pw,px,py,pz⟩ = bd at *
 obtain ⟨vw,vx,vy,vz⟩:=vq
 unfold Q4.v at HW
 dsimp only at HW HI
 clear f0 f1 f2 f3 f4 f5 f6
 go_enter Tryz.func58,Tryz.ntmps58
 go_upto_region 2 with fail
 obtain ⟨V,hV⟩:∃ V:World,V = ((w0.alloc (.cells #[.int .i64 at0,.int .i64 at1,.int .i64 at2,.int .i64 qa,.int .i64 qb_,.int .i64 qc,.int .i64 qd] 71)).alloc (.cells #[.int .i64 0,.int .i64 0,.int .i64 0,.int .i64 0,.int .i64 0,.int .i64 0,.int .i64 0] 104)).alloc (.cells #[.bool false] 33):=⟨_,rfl⟩
 obtain ⟨rb,hrb⟩:∃ b,b = w0.heap.size:=⟨_,rfl⟩
 obtain ⟨ob,hob'⟩:∃ b,b = w0.heap.size + 1:=⟨_,rfl⟩
 obtain ⟨wb,hwb'⟩:∃ b,b = w0.heap.size + 1 + 1:=⟨_,rfl⟩
 have hBV:Hid (Below w0.heap.size w0 V):=by show Below _ _ _;rw [hV];exact b_step (b_step (n_after _ _) (n_after _ _)) (n_after _ _)
 have B1:Hid (Cells V rb [.int .i64 at0,.int .i64 at1,.int .i64 at2,.int .i64 qa,.int .i64 qb_,.int .i64 qc,.int .i64 qd]):=by show Cells _ _ _;rw [hV,hrb];exact ((Cells.new w0 [.int .i64 at0,.int .i64 at1,.int .i64 at2,.int .i64 qa,.int .i64 qb_,.int .i64 qc,.int .i64 qd] _).step (n_after _ _)).step (n_after _ _)
 have B3:Hid (Cells V ob [.int .i64 0,.int .i64 0,.int .i64 0,.int .i64 0,.int .i64 0,.int .i64 0,.int .i64 0]):=by show Cells _ _ _;rw [hV,hob'];have h9:=(Cells.new (w0.alloc (.cells #[.int .i64 at0,.int .i64 at1,.int .i64 at2,.int .i64 qa,.int .i64 qb_,.int .i64 qc,.int .i64 qd] 71)) [.int .i64 0,.int .i64 0,.int .i64 0,.int .i64 0,.int .i64 0,.int .i64 0,.int .i64 0] 104).step (n_after _ (.cells #[.bool false] 33));rw [World.size_alloc] at h9;exact h9
 have B2:Hid (Cells V wb [.bool false]):=by show Cells _ _ _;rw [hV,hwb'];have h9:=Cells.new ((w0.alloc (.cells #[.int .i64 at0,.int .i64 at1,.int .i64 at2,.int .i64 qa,.int .i64 qb_,.int .i64 qc,.int .i64 qd] 71)).alloc (.cells #[.int .i64 0,.int .i64 0,.int .i64 0,.int .i64 0,.int .i64 0,.int .i64 0,.int .i64 0] 104)) [.bool false] 33;rw [World.size_alloc,World.size_alloc] at h9;exact h9
 have hVs:V.heap.size = w0.heap.size + 3:=by rw [hV];simp
 rw [<- hV,<- hwb',<- hob',<- hrb]
 have hwb:w0.heap.size <= wb:=by omega
 have hob:w0.heap.size <= ob:=by omega
 have hrw:rb ≠ wb:=by omega
 have how_:ob ≠ wb:=by omega
 have hro:rb ≠ ob:=by omega
 have hwV:wb < V.heap.size:=by omega
 have hrV:rb < V.heap.size:=by omega
 have hoV:ob < V.heap.size:=by omega
 clear hV hrb hob' hwb'
 have HW:Hid _:=HW.out wb
 go_cut [4] from 5 (fun s4 wx=>∃ b3:Nat,s4 = .pointer (some ⟨b3,0,none⟩)/\Below w0.heap.size w0 wx/\Cells wx rb [.int .i64 at0,.int .i64 at1,.int .i64 at2,.int .i64 qa,.int .i64 qb_,.int .i64 qc,.int .i64 qd]/\Cells wx ob [.int .i64 0,.int .i64 0,.int .i64 0,.int .i64 0,.int .i64 0,.int .i64 0,.int .i64 0]/\Cells wx b3 [.int .i64 vw,.int .i64 vx,.int .i64 vy,.int .i64 vz]/\w0.heap.size <= b3/\rb ≠ b3/\ob ≠ b3/\wx.cell? ⟨wb,0,none⟩ = some (.bool bd))
 case first =>
  refine RV.rs [.some (.pointer (some ⟨wb,0,none⟩)),.some (.pointer (some ⟨rb,3,none⟩)),.some (.pointer (some ⟨rb,3,none⟩)),.some (.int .i64 qa),.some (.int .i64 pw),.some (.pointer (some ⟨rb,3,none⟩)),.some (.pointer (some ⟨rb,4,none⟩)),.some (.int .i64 qb_),.some (.int .i64 px),.some (.pointer (some ⟨rb,3,none⟩)),.some (.pointer (some ⟨rb,5,none⟩)),.some (.int .i64 qc),.some (.int .i64 py),.some (.pointer (some ⟨rb,3,none⟩)),.some (.pointer (some ⟨rb,6,none⟩)),.some (.int .i64 qd),.some (.int .i64 pz),.some (.agg #[.int .i64 pw,.int .i64 px,.int .i64 py,.int .i64 pz]),.some (.agg #[.int .i64 vw,.int .i64 vx,.int .i64 vy,.int .i64 vz]),none,none] [8,9,10,11,12,13,14,15,16,17,18,19,20,21,22,23,24,25,26,5,0] [(1,.pointer (some ⟨rb,0,none⟩)),(3,.pointer (some ⟨wb,0,none⟩))] (fun γ L w=>Below w0.heap.size w0 w/\Cells w rb [.int .i64 at0,.int .i64 at1,.int .i64 at2,.int .i64 qa,.int .i64 qb_,.int .i64 qc,.int .i64 qd]/\Cells w wb [.bool (L 18 && bd)]/\Cells w ob [.int .i64 0,.int .i64 0,.int .i64 0,.int .i64 0,.int .i64 0,.int .i64 0,.int .i64 0]/\RV.Pend V 69 19 20 #[.int .i64 vw,.int .i64 vx,.int .i64 vy,.int .i64 vz] γ L w/\V.heap.size <= w.heap.size) ⟨rfl,rfl,trivial⟩ ?_ ?_ ?_
  ·have b9:Below V.heap.size V V.drew:=(Below.refl _ _).drew;exact ⟨b_step hBV.out b9,B1.out.step b9,B2.out.step b9,B3.out.step b9,RV.Pend.start rfl,Nat.le_refl _⟩
  ·intro D WA Z hD hWA hZ T
   simp only [RV.Outs,RV.Slots,Nat.reduceAdd] at T
   iterate 4 first
    | (refine RV.cc _ (RV.pu T (fun γ v L w hl h=>⟨h.1,h.2.1,by rw [RV.mn (L:=L) (i:=_) (j:=18) (by decide)];exact h.2.2.1,h.2.2.2.1,h.2.2.2.2.1.other v (by decide) (by decide),h.2.2.2.2.2⟩) (fun γ L a w hH hl h9 k9=>⟨_,?_,rfl⟩)) ?_;· simp [execOp,go_sem,h9])
    | (refine RV.cc _ (RV.pu T (fun γ v L w hl h=>⟨h.1,h.2.1,by rw [RV.mn (L:=L) (i:=_) (j:=18) (by decide)];exact h.2.2.1,h.2.2.2.1,h.2.2.2.2.1.other v (by decide) (by decide),h.2.2.2.2.2⟩) (fun γ L a w hH hl h9 k9=>⟨_,?_,rfl⟩)) ?_;· simp [Region.binds] at k9;simp [execOp,go_sem,h9,k9])
    | (refine RV.cc _ (RV.pu T (fun γ v L w hl h=>⟨h.1,h.2.1,by rw [RV.mn (L:=L) (i:=_) (j:=18) (by decide)];exact h.2.2.1,h.2.2.2.1,h.2.2.2.2.1.other v (by decide) (by decide),h.2.2.2.2.2⟩) (fun γ L a w hH hl h9 k9=>⟨_,?_,rfl⟩)) ?_;· have wz9:=(hH.glob.2.1 3 _ rfl).1;simp [Region.binds] at k9;simp [execOp,go_sem,h9,k9,wz9])
   refine RV.cc _ (RV.dc (fun γ L a w hH hl hA=>by have h9:=T γ L a w hH;have k9:=hA;simp [Region.binds] at k9;refine ⟨103,#[.int .i64 qa,.int .i64 1099511627776],by simp [go_sem,h9,k9],Calls.mono (HP0.out w) ?_⟩;rintro e w2 ⟨rfl,rfl⟩;exact ⟨_,rfl,rfl,fun j v _ h=>h.keep _,hH.glob.1,hH.glob.2.1,by rw [RV.mn (L:=L) (i:=4) (j:=18) (by decide)];exact hH.glob.2.2.1,hH.glob.2.2.2.1,hH.glob.2.2.2.2.1.other _ (by decide) (by decide),hH.glob.2.2.2.2.2⟩)) ?_
   iterate 3 first
    | (refine RV.cc _ (RV.pu T (fun γ v L w hl h=>⟨h.1,h.2.1,by rw [RV.mn (L:=L) (i:=_) (j:=18) (by decide)];exact h.2.2.1,h.2.2.2.1,h.2.2.2.2.1.other v (by decide) (by decide),h.2.2.2.2.2⟩) (fun γ L a w hH hl h9 k9=>⟨_,?_,rfl⟩)) ?_;· simp [execOp,go_sem,h9])
    | (refine RV.cc _ (RV.pu T (fun γ v L w hl h=>⟨h.1,h.2.1,by rw [RV.mn (L:=L) (i:=_) (j:=18) (by decide)];exact h.2.2.1,h.2.2.2.1,h.2.2.2.2.1.other v (by decide) (by decide),h.2.2.2.2.2⟩) (fun γ L a w hH hl h9 k9=>⟨_,?_,rfl⟩)) ?_;· simp [Region.binds] at k9;simp [execOp,go_sem,h9,k9])
    | (refine RV.cc _ (RV.pu T (fun γ v L w hl h=>⟨h.1,h.2.1,by rw [RV.mn (L:=L) (i:=_) (j:=18) (by decide)];exact h.2.2.1,h.2.2.2.1,h.2.2.2.2.1.other v (by decide) (by decide),h.2.2.2.2.2⟩) (fun γ L a w hH hl h9 k9=>⟨_,?_,rfl⟩)) ?_;· have wz9:=(hH.glob.2.1 4 _ rfl).1;simp [Region.binds] at k9;simp [execOp,go_sem,h9,k9,wz9])
   refine RV.cc _ (RV.dc (fun γ L a w hH hl hA=>by have h9:=T γ L a w hH;have k9:=hA;simp [Region.binds] at k9;refine ⟨103,#[.int .i64 qb_,.int .i64 1099511627776],by simp [go_sem,h9,k9],Calls.mono (HP1.out w) ?_⟩;rintro e w2 ⟨rfl,rfl⟩;exact ⟨_,rfl,rfl,fun j v _ h=>h.keep _,hH.glob.1,hH.glob.2.1,by rw [RV.mn (L:=L) (i:=8) (j:=18) (by decide)];exact hH.glob.2.2.1,hH.glob.2.2.2.1,hH.glob.2.2.2.2.1.other _ (by decide) (by decide),hH.glob.2.2.2.2.2⟩)) ?_
   iterate 3 first
    | (refine RV.cc _ (RV.pu T (fun γ v L w hl h=>⟨h.1,h.2.1,by rw [RV.mn (L:=L) (i:=_) (j:=18) (by decide)];exact h.2.2.1,h.2.2.2.1,h.2.2.2.2.1.other v (by decide) (by decide),h.2.2.2.2.2⟩) (fun γ L a w hH hl h9 k9=>⟨_,?_,rfl⟩)) ?_;· simp [execOp,go_sem,h9])
    | (refine RV.cc _ (RV.pu T (fun γ v L w hl h=>⟨h.1,h.2.1,by rw [RV.mn (L:=L) (i:=_) (j:=18) (by decide)];exact h.2.2.1,h.2.2.2.1,h.2.2.2.2.1.other v (by decide) (by decide),h.2.2.2.2.2⟩) (fun γ L a w hH hl h9 k9=>⟨_,?_,rfl⟩)) ?_;· simp [Region.binds] at k9;simp [execOp,go_sem,h9,k9])
    | (refine RV.cc _ (RV.pu T (fun γ v L w hl h=>⟨h.1,h.2.1,by rw [RV.mn (L:=L) (i:=_) (j:=18) (by decide)];exact h.2.2.1,h.2.2.2.1,h.2.2.2.2.1.other v (by decide) (by decide),h.2.2.2.2.2⟩) (fun γ L a w hH hl h9 k9=>⟨_,?_,rfl⟩)) ?_;· have wz9:=(hH.glob.2.1 5 _ rfl).1;simp [Region.binds] at k9;simp [execOp,go_sem,h9,k9,wz9])
   refine RV.cc _ (RV.dc (fun γ L a w hH hl hA=>by have h9:=T γ L a w hH;have k9:=hA;simp [Region.binds] at k9;refine ⟨103,#[.int .i64 qc,.int .i64 1099511627776],by simp [go_sem,h9,k9],Calls.mono (HP2.out w) ?_⟩;rintro e w2 ⟨rfl,rfl⟩;exact ⟨_,rfl,rfl,fun j v _ h=>h.keep _,hH.glob.1,hH.glob.2.1,by rw [RV.mn (L:=L) (i:=12) (j:=18) (by decide)];exact hH.glob.2.2.1,hH.glob.2.2.2.1,hH.glob.2.2.2.2.1.other _ (by decide) (by decide),hH.glob.2.2.2.2.2⟩)) ?_
   iterate 3 first
    | (refine RV.cc _ (RV.pu T (fun γ v L w hl h=>⟨h.1,h.2.1,by rw [RV.mn (L:=L) (i:=_) (j:=18) (by decide)];exact h.2.2.1,h.2.2.2.1,h.2.2.2.2.1.other v (by decide) (by decide),h.2.2.2.2.2⟩) (fun γ L a w hH hl h9 k9=>⟨_,?_,rfl⟩)) ?_;· simp [execOp,go_sem,h9])
    | (refine RV.cc _ (RV.pu T (fun γ v L w hl h=>⟨h.1,h.2.1,by rw [RV.mn (L:=L) (i:=_) (j:=18) (by decide)];exact h.2.2.1,h.2.2.2.1,h.2.2.2.2.1.other v (by decide) (by decide),h.2.2.2.2.2⟩) (fun γ L a w hH hl h9 k9=>⟨_,?_,rfl⟩)) ?_;· simp [Region.binds] at k9;simp [execOp,go_sem,h9,k9])
    | (refine RV.cc _ (RV.pu T (fun γ v L w hl h=>⟨h.1,h.2.1,by rw [RV.mn (L:=L) (i:=_) (j:=18) (by decide)];exact h.2.2.1,h.2.2.2.1,h.2.2.2.2.1.other v (by decide) (by decide),h.2.2.2.2.2⟩) (fun γ L a w hH hl h9 k9=>⟨_,?_,rfl⟩)) ?_;· have wz9:=(hH.glob.2.1 6 _ rfl).1;simp [Region.binds] at k9;simp [execOp,go_sem,h9,k9,wz9])
   refine RV.cc _ (RV.dc (fun γ L a w hH hl hA=>by have h9:=T γ L a w hH;have k9:=hA;simp [Region.binds] at k9;refine ⟨103,#[.int .i64 qd,.int .i64 1099511627776],by simp [go_sem,h9,k9],Calls.mono (HP3.out w) ?_⟩;rintro e w2 ⟨rfl,rfl⟩;exact ⟨_,rfl,rfl,fun j v _ h=>h.keep _,hH.glob.1,hH.glob.2.1,by rw [RV.mn (L:=L) (i:=16) (j:=18) (by decide)];exact hH.glob.2.2.1,hH.glob.2.2.2.1,hH.glob.2.2.2.2.1.other _ (by decide) (by decide),hH.glob.2.2.2.2.2⟩)) ?_
   (refine RV.cc _ (RV.pu T (fun γ v L w hl h=>⟨h.1,h.2.1,by rw [RV.mn (L:=L) (i:=_) (j:=18) (by decide)];exact h.2.2.1,h.2.2.2.1,h.2.2.2.2.1.other v (by decide) (by decide),h.2.2.2.2.2⟩) (fun γ L a w hH hl h9 k9=>⟨_,?_,rfl⟩)) ?_;· simp [Region.binds] at k9;simp [execOp,go_sem,h9,k9])
   refine RV.cc _ (RV.dc (fun γ L a w hH hl hA=>by have h9:=T γ L a w hH;have k9:=hA;simp [Region.binds] at k9;have hG:=hH.glob;rw [hl] at hG;have wz:=hG.2.2.1 0 _ rfl;refine ⟨102,#[.pointer (some ⟨wb,0,none⟩),.agg #[.int .i64 pw,.int .i64 px,.int .i64 py,.int .i64 pz]],by simp [go_sem,h9,k9],Calls.mono (HW.out w _ wz.1 wz.2) ?_⟩;rintro e w2 ⟨rfl,A⟩;refine ⟨_,rfl,rfl,fun j v _ h=>h.keep _,?_⟩;have A9:=A.out;exact ⟨A9.on hG.1 hwb,hG.2.1.beside A9 hrw,by rw [RV.more_self];exact Cells.after hG.2.2.1 A9,hG.2.2.2.1.beside A9 how_,(hG.2.2.2.2.1.after A9 hwV).other _ (by decide) (by decide),Nat.le_trans hG.2.2.2.2.2 A9.size⟩)) ?_
   refine RV.cc _ (RV.does_step (fun γ L a w hH hl hA=>by have hG:=hH.glob;have h20:L 20 = false:=RV.ny hH (RV.wt (j:=20) (i:=19) hWA (by kernel_rfl)) hl;exact ⟨.pointer (some ⟨w.heap.size,0,none⟩),w.alloc (.cells #[.int .i64 0,.int .i64 0,.int .i64 0,.int .i64 0] 69),by simp [execOp,go_sem],trivial,fun j v _ h=>h.keep _,hG.1.alloc hG.1.size _,hG.2.1.step (n_after _ _),by rw [RV.mn (L:=L) (i:=19) (j:=18) (by decide)];exact hG.2.2.1.step (n_after _ _),hG.2.2.2.1.step (n_after _ _),RV.Pend.made _ rfl hG.2.2.2.2.2 h20 (by decide),by rw [World.size_alloc];have h8:=hG.2.2.2.2.2;omega⟩)) ?_
   refine RV.cc _ (RV.does_store (fun γ L a w hH hl hA=>by have h9:=T γ L a w hH;have k9:=hA;simp [Region.binds] at k9;have l0:L 19 = true:=hA ⟨19,.data⟩ (by simp) rfl;have e0:=hH.slot 19 4 (by rw [<- hD];rfl) l0;have hG:=hH.glob;obtain ⟨b,cs,hb1,hb2,hb3,hb4,_⟩:=hG.2.2.2.2.1 l0;rw [hb1] at e0;obtain ⟨u0,u1,u2,u3,rfl⟩:=arr4' hb4;have wz0:w.cell? ⟨b,0,none⟩ = some u0:=(by simp [World.cell?,hb3]);have wz1:w.cell? ⟨b,1,none⟩ = some u1:=(by simp [World.cell?,hb3]);have wz2:w.cell? ⟨b,2,none⟩ = some u2:=(by simp [World.cell?,hb3]);have wz3:w.cell? ⟨b,3,none⟩ = some u3:=(by simp [World.cell?,hb3]);have zf:∀ o,w.frozen? ⟨b,o,none⟩ = false:=fun o=>(by simp [World.frozen?,hb3]);have n1:rb ≠ b:=(by omega);have n2:wb ≠ b:=(by omega);have n3:ob ≠ b:=(by omega);have n4:w0.heap.size <= b:=(by omega);exact ⟨((((w.setCell ⟨b,0,none⟩ (.int .i64 vw)).setCell ⟨b,1,none⟩ (.int .i64 vx)).setCell ⟨b,2,none⟩ (.int .i64 vy)).setCell ⟨b,3,none⟩ (.int .i64 vz)),by simp [execOp,go_sem,e0,wz0,wz1,wz2,wz3,zf,h9,k9],trivial,fun j v _ h=>h.keep _,((((hG.1.setCell n4 _).setCell n4 _).setCell n4 _).setCell n4 _),((((hG.2.1.apart n1 0 _).apart n1 1 _).apart n1 2 _).apart n1 3 _),by rw [RV.mn (L:=L) (i:=20) (j:=18) (by decide)];exact ((((hG.2.2.1.apart n2 0 _).apart n2 1 _).apart n2 2 _).apart n2 3 _),((((hG.2.2.2.1.apart n3 0 _).apart n3 1 _).apart n3 2 _).apart n3 3 _),RV.Pend.filled hb1 hb2 (by have q0:=Go.heap_setCell_same w b 0 _ _ (.int .i64 vw) hb3;have q1:=Go.heap_setCell_same _ b 1 _ _ (.int .i64 vx) q0;have q2:=Go.heap_setCell_same _ b 2 _ _ (.int .i64 vy) q1;have q3:=Go.heap_setCell_same _ b 3 _ _ (.int .i64 vz) q2;simpa using q3) (by decide) _,by have h8:=hG.2.2.2.2.2;simpa [World.setCell] using h8⟩)) ?_
   exact RV.AllDo.nil
  ·intro γ w5 L9 hL hI9 hG9
   have hG:=hG9
   rw [hL 18 (by decide)] at hG
   obtain ⟨b3,cs,hb1,hb2,hb3,_,hb5⟩:=hG.2.2.2.2.1 (hL 19 (by decide))
   rw [hb5 (hL 20 (by decide))] at hb3
   clear hL hb5 hI9 hG9
   simp only [RV.putL,Act.put,List.setIfInBounds_toArray,List.set_cons_zero,List.set_cons_succ,Nat.reduceAdd]
   rw [hb1]
   have C3:Cells w5 b3 [.int .i64 vw,.int .i64 vx,.int .i64 vy,.int .i64 vz]:=fun i v e=>⟨by simp [World.cell?,hb3];exact e,by simp [World.frozen?,hb3]⟩
   have HH:Hid (Below w0.heap.size w0 w5/\Cells w5 rb [.int .i64 at0,.int .i64 at1,.int .i64 at2,.int .i64 qa,.int .i64 qb_,.int .i64 qc,.int .i64 qd]/\Cells w5 ob [.int .i64 0,.int .i64 0,.int .i64 0,.int .i64 0,.int .i64 0,.int .i64 0,.int .i64 0]):=⟨hG.1,hG.2.1,hG.2.2.2.1⟩
   have fl:=(hG.2.2.1 0 _ rfl).1
   have nrb:rb ≠ b3:=by omega
   have nob:ob ≠ b3:=by omega
   have nb4:w0.heap.size <= b3:=by omega
   clear hG hb1 hb3
   go_wp2_with (fail)
   go_meet
   case rel=>exact ⟨b3,rfl,HH.out.1,HH.out.2.1,HH.out.2.2,C3,nb4,nrb,nob,by simpa using fl⟩
 case rest =>
  obtain ⟨b3,rfl,k1,k2,k3,k4,nb4,nrb,nob,fl⟩:=hcut
  have hbo:b3 ≠ ob:=fun e=>nob e.symm
  have H1:Hid _:=And.intro k1 (And.intro k2 (And.intro k3 k4))
  clear k1 k2 k3 k4 B1 B2 B3 hBV HP0 HP1 HP2 HP3 HW
  go_upto_if 29 with fail
  go_cut [] from 26 (fun wx=>∃ ua ub uc ud:Int,Hid (WM.Whole ua ub uc ud)/\Below w0.heap.size w0 wx/\Cells wx rb [.int .i64 at0,.int .i64 at1,.int .i64 at2,.int .i64 qa,.int .i64 qb_,.int .i64 qc,.int .i64 qd]/\Cells wx ob [.int .i64 0,.int .i64 0,.int .i64 0,.int .i64 0,.int .i64 0,.int .i64 0,.int .i64 0]/\Cells wx b3 [.int .i64 ua,.int .i64 ub,.int .i64 uc,.int .i64 ud])
  case first =>
   cases bd with
   | false =>
    go_wp2_with (fail)
    go_meet
    case rel=>exact ⟨vw,vx,vy,vz,(by first | exact HI.out rfl | exact HI.out trivial),H1.out.1,H1.out.2.1,H1.out.2.2.1,H1.out.2.2.2⟩
   | true =>
    obtain ⟨k1,k2,k3,k4⟩:=H1.out
    have HN:Hid (Below w0.heap.size w0 (set4 wc b3 (.int .i64 4294967296) (.int .i64 0) (.int .i64 0) (.int .i64 0))/\Cells (set4 wc b3 (.int .i64 4294967296) (.int .i64 0) (.int .i64 0) (.int .i64 0)) rb [.int .i64 at0,.int .i64 at1,.int .i64 at2,.int .i64 qa,.int .i64 qb_,.int .i64 qc,.int .i64 qd]/\Cells (set4 wc b3 (.int .i64 4294967296) (.int .i64 0) (.int .i64 0) (.int .i64 0)) ob [.int .i64 0,.int .i64 0,.int .i64 0,.int .i64 0,.int .i64 0,.int .i64 0,.int .i64 0]/\Cells (set4 wc b3 (.int .i64 4294967296) (.int .i64 0) (.int .i64 0) (.int .i64 0)) b3 [.int .i64 4294967296,.int .i64 0,.int .i64 0,.int .i64 0]):=
     ⟨set4_below k1 nb4 _ _ _ _,((((Cells.apart k2 nrb 0 _).apart nrb 1 _).apart nrb 2 _).apart nrb 3 _),((((Cells.apart k3 nob 0 _).apart nob 1 _).apart nob 2 _).apart nob 3 _),Cells.set4 k4 _ _ _ _⟩
    obtain ⟨z0,z0f⟩:=k4 0 _ rfl
    obtain ⟨z1,z1f⟩:=k4 1 _ rfl
    obtain ⟨z2,z2f⟩:=k4 2 _ rfl
    obtain ⟨z3,z3f⟩:=k4 3 _ rfl
    unfold set4 at HN
    clear k1 k2 k3 k4
    go_wp2_with (fail)
    go_meet
    case rel=>exact ⟨4294967296,0,0,0,(by unfold WM.Whole;decide:WM.Whole 4294967296 0 0 0),HN.out.1,HN.out.2.1,HN.out.2.2.1,HN.out.2.2.2⟩
  case rest =>
   obtain ⟨ua,ub,uc,ud,HQ9,k1,k2,k3,k4⟩:=hcut
   clear H1 fl HI
   go_upto_region 5 with fail
   obtain ⟨X,hX⟩:∃ X:World,X = wc:=⟨_,rfl⟩
   rw [<- hX] at k1 k2 k3 k4 ⊢
   clear hX
   refine RV.rs [.some (.pointer (some ⟨rb,0,none⟩)),.some (.pointer (some ⟨rb,0,none⟩)),.some (.int .i64 at0),.some (.int .i64 ta),.some (.pointer (some ⟨rb,0,none⟩)),.some (.pointer (some ⟨rb,1,none⟩)),.some (.int .i64 at1),.some (.int .i64 tb),.some (.pointer (some ⟨rb,0,none⟩)),.some (.pointer (some ⟨rb,2,none⟩)),.some (.int .i64 at2),.some (.int .i64 tc),.some (.agg #[.int .i64 ta,.int .i64 tb,.int .i64 tc]),.some (.agg #[.int .i64 ua,.int .i64 ub,.int .i64 uc,.int .i64 ud]),.some (.agg #[.int .i64 ta,.int .i64 tb,.int .i64 tc,.int .i64 ua,.int .i64 ub,.int .i64 uc,.int .i64 ud]),none] [32,33,34,35,36,37,38,39,40,41,42,43,44,45,46,0] [(1,.pointer (some ⟨rb,0,none⟩)),(2,.pointer (some ⟨ob,0,none⟩)),(4,.pointer (some ⟨b3,0,none⟩))] (fun γ L w=>Below w0.heap.size w0 w/\Cells w rb [.int .i64 at0,.int .i64 at1,.int .i64 at2,.int .i64 qa,.int .i64 qb_,.int .i64 qc,.int .i64 qd]/\Cells w b3 [.int .i64 ua,.int .i64 ub,.int .i64 uc,.int .i64 ud]/\Cells w ob (cond (L 15) [.int .i64 ta,.int .i64 tb,.int .i64 tc,.int .i64 ua,.int .i64 ub,.int .i64 uc,.int .i64 ud] [.int .i64 0,.int .i64 0,.int .i64 0,.int .i64 0,.int .i64 0,.int .i64 0,.int .i64 0])) ⟨rfl,rfl,rfl,trivial⟩ ?_ ?_ ?_
   ·have b9:Below X.heap.size X X.drew:=(Below.refl _ _).drew;exact ⟨b_step k1 b9,Cells.step k2 b9,Cells.step k4 b9,Cells.step k3 b9⟩
   ·intro D WA Z hD hWA hZ T
    simp only [RV.Outs,RV.Slots,Nat.reduceAdd] at T
    iterate 3 first
     | (refine RV.cc _ (RV.pu T (fun γ v L w hl h=>⟨h.1,h.2.1,h.2.2.1,by rw [RV.mn (L:=L) (i:=_) (j:=15) (by decide)];exact h.2.2.2⟩) (fun γ L a w hH hl h9 k9=>⟨_,?_,rfl⟩)) ?_;· simp [execOp,go_sem,h9])
     | (refine RV.cc _ (RV.pu T (fun γ v L w hl h=>⟨h.1,h.2.1,h.2.2.1,by rw [RV.mn (L:=L) (i:=_) (j:=15) (by decide)];exact h.2.2.2⟩) (fun γ L a w hH hl h9 k9=>⟨_,?_,rfl⟩)) ?_;· simp [Region.binds] at k9;simp [execOp,go_sem,h9,k9])
     | (refine RV.cc _ (RV.pu T (fun γ v L w hl h=>⟨h.1,h.2.1,h.2.2.1,by rw [RV.mn (L:=L) (i:=_) (j:=15) (by decide)];exact h.2.2.2⟩) (fun γ L a w hH hl h9 k9=>⟨_,?_,rfl⟩)) ?_;· have wz9:=(hH.glob.2.1 0 _ rfl).1;simp [Region.binds] at k9;simp [execOp,go_sem,h9,k9,wz9])
    refine RV.cc _ (RV.dc (fun γ L a w hH hl hA=>by have h9:=T γ L a w hH;have k9:=hA;simp [Region.binds] at k9;refine ⟨103,#[.int .i64 at0,.int .i64 4398046511104],by simp [go_sem,h9,k9],Calls.mono (HA0.out w) ?_⟩;rintro e w2 ⟨rfl,rfl⟩;exact ⟨_,rfl,rfl,fun j v _ h=>h.keep _,hH.glob.1,hH.glob.2.1,hH.glob.2.2.1,by rw [RV.mn (L:=L) (i:=3) (j:=15) (by decide)];exact hH.glob.2.2.2⟩)) ?_
    iterate 3 first
     | (refine RV.cc _ (RV.pu T (fun γ v L w hl h=>⟨h.1,h.2.1,h.2.2.1,by rw [RV.mn (L:=L) (i:=_) (j:=15) (by decide)];exact h.2.2.2⟩) (fun γ L a w hH hl h9 k9=>⟨_,?_,rfl⟩)) ?_;· simp [execOp,go_sem,h9])
     | (refine RV.cc _ (RV.pu T (fun γ v L w hl h=>⟨h.1,h.2.1,h.2.2.1,by rw [RV.mn (L:=L) (i:=_) (j:=15) (by decide)];exact h.2.2.2⟩) (fun γ L a w hH hl h9 k9=>⟨_,?_,rfl⟩)) ?_;· simp [Region.binds] at k9;simp [execOp,go_sem,h9,k9])
     | (refine RV.cc _ (RV.pu T (fun γ v L w hl h=>⟨h.1,h.2.1,h.2.2.1,by rw [RV.mn (L:=L) (i:=_) (j:=15) (by decide)];exact h.2.2.2⟩) (fun γ L a w hH hl h9 k9=>⟨_,?_,rfl⟩)) ?_;· have wz9:=(hH.glob.2.1 1 _ rfl).1;simp [Region.binds] at k9;simp [execOp,go_sem,h9,k9,wz9])
    refine RV.cc _ (RV.dc (fun γ L a w hH hl hA=>by have h9:=T γ L a w hH;have k9:=hA;simp [Region.binds] at k9;refine ⟨103,#[.int .i64 at1,.int .i64 4398046511104],by simp [go_sem,h9,k9],Calls.mono (HA1.out w) ?_⟩;rintro e w2 ⟨rfl,rfl⟩;exact ⟨_,rfl,rfl,fun j v _ h=>h.keep _,hH.glob.1,hH.glob.2.1,hH.glob.2.2.1,by rw [RV.mn (L:=L) (i:=7) (j:=15) (by decide)];exact hH.glob.2.2.2⟩)) ?_
    iterate 3 first
     | (refine RV.cc _ (RV.pu T (fun γ v L w hl h=>⟨h.1,h.2.1,h.2.2.1,by rw [RV.mn (L:=L) (i:=_) (j:=15) (by decide)];exact h.2.2.2⟩) (fun γ L a w hH hl h9 k9=>⟨_,?_,rfl⟩)) ?_;· simp [execOp,go_sem,h9])
     | (refine RV.cc _ (RV.pu T (fun γ v L w hl h=>⟨h.1,h.2.1,h.2.2.1,by rw [RV.mn (L:=L) (i:=_) (j:=15) (by decide)];exact h.2.2.2⟩) (fun γ L a w hH hl h9 k9=>⟨_,?_,rfl⟩)) ?_;· simp [Region.binds] at k9;simp [execOp,go_sem,h9,k9])
     | (refine RV.cc _ (RV.pu T (fun γ v L w hl h=>⟨h.1,h.2.1,h.2.2.1,by rw [RV.mn (L:=L) (i:=_) (j:=15) (by decide)];exact h.2.2.2⟩) (fun γ L a w hH hl h9 k9=>⟨_,?_,rfl⟩)) ?_;· have wz9:=(hH.glob.2.1 2 _ rfl).1;simp [Region.binds] at k9;simp [execOp,go_sem,h9,k9,wz9])
    refine RV.cc _ (RV.dc (fun γ L a w hH hl hA=>by have h9:=T γ L a w hH;have k9:=hA;simp [Region.binds] at k9;refine ⟨103,#[.int .i64 at2,.int .i64 4398046511104],by simp [go_sem,h9,k9],Calls.mono (HA2.out w) ?_⟩;rintro e w2 ⟨rfl,rfl⟩;exact ⟨_,rfl,rfl,fun j v _ h=>h.keep _,hH.glob.1,hH.glob.2.1,hH.glob.2.2.1,by rw [RV.mn (L:=L) (i:=11) (j:=15) (by decide)];exact hH.glob.2.2.2⟩)) ?_
    iterate 3 first
     | (refine RV.cc _ (RV.pu T (fun γ v L w hl h=>⟨h.1,h.2.1,h.2.2.1,by rw [RV.mn (L:=L) (i:=_) (j:=15) (by decide)];exact h.2.2.2⟩) (fun γ L a w hH hl h9 k9=>⟨_,?_,rfl⟩)) ?_;· have wz0:=(hH.glob.2.2.1 0 _ rfl).1;have wz1:=(hH.glob.2.2.1 1 _ rfl).1;have wz2:=(hH.glob.2.2.1 2 _ rfl).1;have wz3:=(hH.glob.2.2.1 3 _ rfl).1;simp [execOp,go_sem,h9,wz0,wz1,wz2,wz3])
     | (refine RV.cc _ (RV.pu T (fun γ v L w hl h=>⟨h.1,h.2.1,h.2.2.1,by rw [RV.mn (L:=L) (i:=_) (j:=15) (by decide)];exact h.2.2.2⟩) (fun γ L a w hH hl h9 k9=>⟨_,?_,rfl⟩)) ?_;· simp [Region.binds] at k9;simp [execOp,go_sem,h9,k9])
    refine RV.cc _ (RV.does_store (fun γ L a w hH hl hA=>by have h9:=T γ L a w hH;have k9:=hA;simp [Region.binds] at k9;have hG:=hH.glob;rw [hl] at hG;have wz0:=hG.2.2.2 0 _ rfl;have wz1:=hG.2.2.2 1 _ rfl;have wz2:=hG.2.2.2 2 _ rfl;have wz3:=hG.2.2.2 3 _ rfl;have wz4:=hG.2.2.2 4 _ rfl;have wz5:=hG.2.2.2 5 _ rfl;have wz6:=hG.2.2.2 6 _ rfl;refine ⟨(((((((w.setCell ⟨ob,0,none⟩ (.int .i64 ta)).setCell ⟨ob,1,none⟩ (.int .i64 tb)).setCell ⟨ob,2,none⟩ (.int .i64 tc)).setCell ⟨ob,3,none⟩ (.int .i64 ua)).setCell ⟨ob,4,none⟩ (.int .i64 ub)).setCell ⟨ob,5,none⟩ (.int .i64 uc)).setCell ⟨ob,6,none⟩ (.int .i64 ud)),by simp [execOp,go_sem,wz0.1,wz0.2,wz1.1,wz1.2,wz2.1,wz2.2,wz3.1,wz3.2,wz4.1,wz4.2,wz5.1,wz5.2,wz6.1,wz6.2,h9,k9],trivial,fun j v _ h=>h.keep _,(((((((hG.1.setCell hob _).setCell hob _).setCell hob _).setCell hob _).setCell hob _).setCell hob _).setCell hob _),(((((((hG.2.1.apart hro 0 _).apart hro 1 _).apart hro 2 _).apart hro 3 _).apart hro 4 _).apart hro 5 _).apart hro 6 _),(((((((hG.2.2.1.apart hbo 0 _).apart hbo 1 _).apart hbo 2 _).apart hbo 3 _).apart hbo 4 _).apart hbo 5 _).apart hbo 6 _),?_⟩;rw [RV.more_self];exact (Cells.set (Cells.set (Cells.set (Cells.set (Cells.set (Cells.set (Cells.set hG.2.2.2 0 (.int .i64 ta) (by simp)) 1 (.int .i64 tb) (by simp)) 2 (.int .i64 tc) (by simp)) 3 (.int .i64 ua) (by simp)) 4 (.int .i64 ub) (by simp)) 5 (.int .i64 uc) (by simp)) 6 (.int .i64 ud) (by simp)))) ?_
    exact RV.AllDo.nil
   ·intro γ w5 L9 hL hI9 hG9
    have hG:=hG9
    rw [hL 15 (by decide)] at hG
    clear hL hI9 hG9
    simp only [RV.putL,Act.put,List.setIfInBounds_toArray,List.set_cons_zero,List.set_cons_succ]
    have HB5:Hid _:=hG.1
    have C5:Cells w5 ob [.int .i64 ta,.int .i64 tb,.int .i64 tc,.int .i64 ua,.int .i64 ub,.int .i64 uc,.int .i64 ud]:=hG.2.2.2
    have z0_:=(C5 0 _ rfl).1
    have z1_:=(C5 1 _ rfl).1
    have z2_:=(C5 2 _ rfl).1
    have z3_:=(C5 3 _ rfl).1
    have z4_:=(C5 4 _ rfl).1
    have z5_:=(C5 5 _ rfl).1
    have z6_:=(C5 6 _ rfl).1
    clear hG C5
    go_wp2
    exact bodyPost_ret (v:=.agg #[.int .i64 ta,.int .i64 tb,.int .i64 tc,.int .i64 ua,.int .i64 ub,.int .i64 uc,.int .i64 ud]) (by simp [results,Tryz.results58,go_sem,z0_,z1_,z2_,z3_,z4_,z5_,z6_]) rfl ⟨⟨ta,tb,tc⟩,⟨ua,ub,uc,ud⟩,rfl,HT.out,HQ9.out,HB5.out⟩
end
section
open Go.RowKit Go.Shelf
structure Came (t:Pt) (q:Q4) (P A E P2 A2 E2:List Pt):Prop where
 p:P2 = P.map ((rowsM q).ptV t)
 a:A2 = (rowsM q).dirs A
 e:E2 = (rowsM q).dirs E
 len:P2.length = P.length
 near:∀ p ∈ P2,p.inB 8388608 = true
 wh:WM.Whole q.w q.x q.y q.z
theorem Three.fill {w0 W:World} {vp va ve:Value} {P A E:List Pt} {b:Nat} {cs:Array Value} (h:Three w0 W vp va ve P A E) (hb:w0.heap.size <= b) (hx:W.heap[b]? = some (.cells cs 28 (0,0))) (v0 v1 v2 v3:Value):Three w0 (set4 W b v0 v1 v2 v3) vp va ve P A E:=by
 have hr:∀ {u:Value} {n:Nat} {xs:List Value},W.ownsRow w0.heap.size 45 3 u n xs->u.ownBlock ≠ some b:=fun h9 e=>by
  rcases h9.2 with ⟨rfl,_⟩ | ⟨g,cap,cur,rfl,_,hgb,_⟩
  ·cases e
  ·have:g = b:=by simpa [Value.ownBlock] using e
   subst this
   rw [hx] at hgb
   simp at hgb
 exact h.set hb (hr h.rp) (hr h.ra) (hr h.re) _ _ _ _
theorem Three.up {w0 w1 W:World} {vp va ve:Value} {P A E:List Pt} (h:Three w1 W vp va ve P A E) (hb:Below w0.heap.size w0 w1):Three w0 W vp va ve P A E:=
 ⟨own_le h.rp hb.size,own_le h.ra hb.size,own_le h.re hb.size,h.pa,h.pe,h.ae,hb.trans (h.below.mono hb.size)⟩
def cp0:Value->Value
 | .tuple vs=>vs.getD 0 undef
 | _=>undef
structure SG (X:World) (sr:Int) (Ps As Es:List Pt) (g2 g3 g4 g5 g7:Value) (l2 l3 l4 l5 l7 l8:Bool) (w:World):Prop where
 be:Below X.heap.size X w
 t3:l3 = true->∃ (P2 A2 E2:List Pt) (vp va ve:Value) (t:Pt) (q:Q4),g3 = .tuple #[.agg #[vp,va,ve,.int .i64 sr],.bool true]/\Three X w vp va ve P2 A2 E2/\Came t q Ps As Es P2 A2 E2
 m4:l4 = true->g4 = g3
 m5:l5 = true->g5 = cp0 g3
 pd:l7 = true->∃ b cs,g7 = .pointer (some ⟨b,0,none⟩)/\X.heap.size <= b/\w.heap[b]? = some (.cells cs 28 (0,0))/\cs.size = 4/\(l8 = true->l3 = true/\∀ vp va ve,g3 = .tuple #[.agg #[vp,va,ve,.int .i64 sr],.bool true]->cs = #[vp,va,ve,.int .i64 sr])
section
variable {X w w':World} {sr:Int} {Ps As Es:List Pt} {g2 g3 g4 g5 g7:Value} {l2 l3 l4 l5 l7 l8:Bool}
theorem SG.step (h:SG X sr Ps As Es g2 g3 g4 g5 g7 l2 l3 l4 l5 l7 l8 w) (hb:Below w.heap.size w w'):SG X sr Ps As Es g2 g3 g4 g5 g7 l2 l3 l4 l5 l7 l8 w':=by
 refine ⟨b_step h.be hb,fun e=>?_,h.m4,h.m5,fun e=>?_⟩
 ·obtain ⟨P2,A2,E2,vp,va,ve,t,q,x1,x2,x3⟩:=h.t3 e
  exact ⟨P2,A2,E2,vp,va,ve,t,q,x1,x2.step hb,x3⟩
 ·obtain ⟨b,cs,x1,x2,x3,x4,x5⟩:=h.pd e
  exact ⟨b,cs,x1,x2,(hb.block b (Array.getElem?_eq_some_iff.1 x3).1).trans x3,x4,x5⟩
theorem SG.got (h:SG X sr Ps As Es g2 g3 g4 g5 g7 l2 l3 l4 l5 l7 l8 w) (h4:l4 = false) (h5:l5 = false) (h8:l8 = false) {P2 A2 E2:List Pt} {vp va ve:Value} {t:Pt} {q:Q4} (hT:Three w w' vp va ve P2 A2 E2) (hC:Came t q Ps As Es P2 A2 E2) :
  SG X sr Ps As Es g2 (.tuple #[.agg #[vp,va,ve,.int .i64 sr],.bool true]) g4 g5 g7 l2 true l4 l5 l7 l8 w':=by
 have h9:=h.step hT.below
 refine ⟨h9.be,fun _=>⟨P2,A2,E2,vp,va,ve,t,q,rfl,hT.up h.be,hC⟩,fun e=>(by rw [h4] at e;cases e),fun e=>(by rw [h5] at e;cases e),fun e=>?_⟩
 obtain ⟨b,cs,x1,x2,x3,x4,_⟩:=h9.pd e
 exact ⟨b,cs,x1,x2,x3,x4,fun e=>(by rw [h8] at e;cases e)⟩
theorem SG.made (h:SG X sr Ps As Es g2 g3 g4 g5 g7 l2 l3 l4 l5 l7 l8 w) (h8:l8 = false):SG X sr Ps As Es g2 g3 g4 g5 (.pointer (some ⟨w.heap.size,0,none⟩)) l2 l3 l4 l5 true l8 (w.alloc (.cells #[.slice none 0 0,.slice none 0 0,.slice none 0 0,.int .i64 0] 28)):=by
 have h9:=h.step (n_after w (.cells #[.slice none 0 0,.slice none 0 0,.slice none 0 0,.int .i64 0] 28))
 exact ⟨h9.be,h9.t3,h9.m4,h9.m5,fun _=>⟨w.heap.size,_,rfl,h.be.size,heap_alloc_new _ _,rfl,fun e=>(by rw [h8] at e;cases e)⟩⟩
theorem SG.fill (h:SG X sr Ps As Es g2 g3 g4 g5 g7 l2 true l4 l5 true l8 w) {b:Nat} {cs:Array Value} (e7:g7 = .pointer (some ⟨b,0,none⟩)) (hb:X.heap.size <= b) (hx:w.heap[b]? = some (.cells cs 28 (0,0))) (hcs:cs.size = 4) {vp va ve:Value} (e3:g3 = .tuple #[.agg #[vp,va,ve,.int .i64 sr],.bool true]) :
  SG X sr Ps As Es g2 g3 g4 g5 g7 l2 true l4 l5 true true (set4 w b vp va ve (.int .i64 sr)):=by
 obtain ⟨q0,q1,q2,q3,rfl⟩:=arr4' hcs
 refine ⟨set4_below h.be hb _ _ _ _,fun _=>?_,h.m4,h.m5,fun _=>⟨b,#[vp,va,ve,.int .i64 sr],e7,hb,?_,rfl,fun _=>⟨rfl,fun vp' va' ve' e'=>?_⟩⟩⟩
 ·obtain ⟨P2,A2,E2,vp,va,ve,t,q,x1,x2,x3⟩:=h.t3 rfl
  exact ⟨P2,A2,E2,vp,va,ve,t,q,x1,x2.fill hb hx _ _ _ _,x3⟩
 ·have y0:=Go.heap_setCell_same w b 0 _ _ vp hx
  have y1:=Go.heap_setCell_same _ b 1 _ _ va y0
  have y2:=Go.heap_setCell_same _ b 2 _ _ ve y1
  have y3:=Go.heap_setCell_same _ b 3 _ _ (.int .i64 sr) y2
  simpa [set4] using y3
 ·rw [e3] at e'
  simp only [Value.tuple.injEq,Array.mk.injEq,List.cons.injEq,Value.agg.injEq,and_true] at e'
  obtain ⟨rfl,rfl,rfl⟩:=e'
  rfl
end
end
section
open Go.RowKit Go.Shelf
theorem rin6_any (p:Pt) (m:Int) (w:World) (hm:0 <= m/\m <= 4611686018427387903) :
  Calls Tryz.prog 96 #[p.v,.int .i64 m] w fun e W=>e = .returned (.bool (p.inB m))/\Below w.heap.size w W:=by
 have HI:Hid (p.inB m = decide ((-m <= p.x/\p.x <= m)/\(-m <= p.y/\p.y <= m)/\(-m <= p.z/\p.z <= m))):=rfl
 obtain ⟨R9,hR9⟩:∃ R9,p.inB m = R9:=⟨_,rfl⟩
 rw [hR9] at HI ⊢
 clear hR9
 obtain ⟨x,y,z⟩:=p
 unfold Pt.v
 dsimp only at *
 obtain ⟨mm,hmm⟩:∃ mm,IntKind.i64.wrap (-m) = mm:=⟨_,rfl⟩
 have hm9:mm = -m:=by rw [<- hmm,IntKind.wrap_i64];omega
 rw [<- hm9] at HI
 have HM:Hid _:=hm
 clear hm9 hm
 by_cases h1:mm <= x
 ·by_cases h2:x <= m
  ·by_cases h3:mm <= y
   ·by_cases h4:y <= m
    ·by_cases h5:mm <= z
     ·by_cases h6:z <= m
      ·have e9:R9 = true:=by rw [HI.out];simp [h1,h2,h3,h4,h5,h6]
       subst e9
       go_enter Tryz.func96,Tryz.ntmps96
       go_wp2
       go_ret
       exact ⟨rfl,n_after _ _⟩
      ·have e9:R9 = false:=by rw [HI.out];simp [h6]
       subst e9
       go_enter Tryz.func96,Tryz.ntmps96
       go_wp2
       go_ret
       exact ⟨rfl,n_after _ _⟩
     ·have e9:R9 = false:=by rw [HI.out];simp [h5]
      subst e9
      go_enter Tryz.func96,Tryz.ntmps96
      go_wp2
      go_ret
      exact ⟨rfl,n_after _ _⟩
    ·have e9:R9 = false:=by rw [HI.out];simp [h4]
     subst e9
     go_enter Tryz.func96,Tryz.ntmps96
     go_wp2
     go_ret
     exact ⟨rfl,n_after _ _⟩
   ·have e9:R9 = false:=by rw [HI.out];simp [h3]
    subst e9
    go_enter Tryz.func96,Tryz.ntmps96
    go_wp2
    go_ret
    exact ⟨rfl,n_after _ _⟩
  ·have e9:R9 = false:=by rw [HI.out];simp [h2]
   subst e9
   go_enter Tryz.func96,Tryz.ntmps96
   go_wp2
   go_ret
   exact ⟨rfl,n_after _ _⟩
 ·have e9:R9 = false:=by rw [HI.out];simp [h1]
  subst e9
  go_enter Tryz.func96,Tryz.ntmps96
  go_wp2
  go_ret
  exact ⟨rfl,n_after _ _⟩
theorem rtimes6_any (p:Pt) (n:Int) (w:World) :
  Calls Tryz.prog 99 #[p.v,.int .i64 n] w fun e W=>e = .returned (p.times n).v/\Below w.heap.size w W:=by
 obtain ⟨x,y,z⟩:=p
 unfold Pt.v Pt.times
 dsimp only at *
 obtain ⟨s1,h1⟩:∃ s,IntKind.i64.wrap (x * n) = s:=⟨_,rfl⟩
 obtain ⟨s2,h2⟩:∃ s,IntKind.i64.wrap (y * n) = s:=⟨_,rfl⟩
 obtain ⟨s3,h3⟩:∃ s,IntKind.i64.wrap (z * n) = s:=⟨_,rfl⟩
 rw [h1,h2,h3]
 go_enter Tryz.func99,Tryz.ntmps99
 go_wp2
 exact bodyPost_ret (v:=.agg #[.int .i64 s1,.int .i64 s2,.int .i64 s3]) (by simp [results,Tryz.results99,go_sem]) rfl ⟨rfl,b_step (n_after _ _) (n_after _ _)⟩
theorem down_is {n:Int} (hn:-4611686018427387904 <= n/\n <= 4611686018427387903):(n.tmod 1048576 < 0->n.tdiv 1048576 - 1 = n / 1048576)/\(¬ n.tmod 1048576 < 0->n.tdiv 1048576 = n / 1048576):=by
 have h1:=Int.tmod_add_mul_tdiv n 1048576
 have h2:=Int.tmod_lt_of_pos n (b:=1048576) (by decide)
 have h3:-1048576 < n.tmod 1048576:=by
  have:=Int.tmod_lt_of_pos (-n) (b:=1048576) (by decide)
  rw [Int.neg_tmod] at this
  omega
 omega
theorem rdown6_any (n:Int) (w:World) (hn:-4611686018427387904 <= n/\n <= 4611686018427387903) :
  Calls Tryz.prog 100 #[.int .i64 n] w fun e W=>e = .returned (.int .i64 (n / 1048576))/\W = w:=by
 obtain ⟨d1,d2⟩:=down_is hn
 obtain ⟨r,hr⟩:∃ r,n / 1048576 = r:=⟨_,rfl⟩
 rw [hr] at d1 d2 ⊢
 have b1:-4611686018427387904 <= n.tdiv 1048576/\n.tdiv 1048576 <= 4611686018427387903:=by
  have e:(n.tdiv 1048576).natAbs = n.natAbs / 1048576:=Int.natAbs_tdiv n 1048576
  omega
 clear hr
 obtain ⟨t,ht⟩:∃ t,n.tdiv 1048576 = t:=⟨_,rfl⟩
 obtain ⟨u,hu⟩:∃ u,n.tmod 1048576 = u:=⟨_,rfl⟩
 have e1:wrap64 (n.tdiv 1048576) = t:=by rw [w64 (by omega) (by omega)];exact ht
 rw [ht] at d1 d2 b1
 rw [hu] at d1 d2
 have e2:wrap64 (t - 1) = t - 1:=w64 (by omega) (by omega)
 by_cases h:u < 0
 ·have e3:t - 1 = r:=d1 h
  subst e3
  clear d1 d2 b1 hn ht
  go_enter Tryz.func100,Tryz.ntmps100
  go_wp2
  go_ret
  exact ⟨by simp [e1,e2],rfl⟩
 ·have e3:t = r:=d2 h
  subst e3
  clear d1 d2 b1 hn ht
  go_enter Tryz.func100,Tryz.ntmps100
  go_wp2
  go_ret
  exact ⟨by simp,rfl⟩
end
end Go.Proofs.YtablgiflakncfaaGreat
