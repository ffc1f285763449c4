/- Package body: a body that moves for a time. -/
import Derived.Test.YteebbpioffdncaaGreatEBBack0
import Derived.Test.YteebbpioffdncaaGreatEBBack15
import Derived.Test.YteebbpioffdncaaGreatEBBack2
set_option maxHeartbeats 4000000
set_option maxRecDepth 100000
set_option linter.unusedVariables false
namespace Go.Proofs.YteebbpioffdncaaGreat
open Go.Calls renaming mono -> JA
open Go.Region renaming binds -> JC
open Go renaming execOp -> JD
open Go.World renaming size_alloc -> JE
open Tryz
open Go.Value renaming int -> J
open Go.IntKind renaming i64 -> Y
section
open Go.RowKit Go.Shelf Fx
theorem FG.alloc {V:World} {p:Addr} {f:Bool} {cs:List (Nat × Bool)} {L:Nat->Bool} {w:World} (h:FG V p f cs L w) (o:Obj):FG V p f cs L (w.alloc o):=
 ⟨h.leaves.alloc o,Ja (Jb w o) h.cell,Jt (Jb w o) h.cell h.frozen⟩
theorem FG.put {V:World} {p:Addr} {f:Bool} {cs:List (Nat × Bool)} {L:Nat->Bool} {w:World} (h:FG V p f cs L w) (hp:p.block < V.heap.size) {b:Nat} (hb:V.heap.size <= b) (o:Nat) (v:Value):FG V p f cs L (w.setCell ⟨b,o,none⟩ v):=by
 refine ⟨h.leaves.set (a:=⟨b,o,none⟩) hb v,(World.cell?_setCell_other _ _ _ _ (fun e=>?_)).trans h.cell,by simp [go_sem,h.frozen]⟩
 rw [<- e] at hp
 exact absurd hp (by simp;omega)
theorem Jbp {P:Program} {a:Act} {o:Oper} {w:World} (ty:TypeId) (x:Operand) (ho:o.op = .load ty x) (b off:Nat) (hx:a.eval x = .pointer (some ⟨b,off,none⟩)) (cs:List Value) (d:TypeDesc) (hc:w.rangeAt b off cs)
  (hu:P.underlying ty = some d) (hd:d.isRow = true) (hi:(P.info? ty).map (·.size) = some cs.length):(JD a.eval o).run P w = .ok (.value (.agg cs.toArray)) w:=by
 unfold JD
 simp only [ho,hx,Instr.loadAt,Instr.sureAddr,Sem.run_bind,Sem.run_pure,Result.andThen_ok,run_loadVar_mid w b off ty cs d hc hu hd hi]
theorem Jro {cs:Array Value} (h:cs.size = 3):∃ a b c,cs = #[a,b,c]:=by
 obtain ⟨l⟩:=cs
 match l,h with
 | [a,b,c],_=>exact ⟨a,b,c,rfl⟩
theorem Js5 {w:World} {b:Nat} {x y z:Value} {t:TypeId} (h:w.heap[b]? = some (.cells #[x,y,z] t (0,0))):CW w b [x,y,z]:=fun i v e =>
 ⟨by match i,e with | 0,e=>cases e;simp [World.cell?,h] | 1,e=>cases e;simp [World.cell?,h] | 2,e=>cases e;simp [World.cell?,h],by simp [World.frozen?,h]⟩
theorem Jib {w:World} {b:Nat} {cs:Array Value} (hx:w.heap[b]? = some (.cells cs 27 (0,0))) (hc:cs.size = 3) (x y z:Value):(((w.setCell ⟨b,0,none⟩ x).setCell ⟨b,1,none⟩ y).setCell ⟨b,2,none⟩ z).heap[b]? = some (.cells #[x,y,z] 27 (0,0)):=by
 obtain ⟨u0,u1,u2,rfl⟩:=Jro hc
 have q0:=Go.heap_setCell_same w b 0 _ _ x hx
 have q1:=Go.heap_setCell_same _ b 1 _ _ y q0
 have q2:=Go.heap_setCell_same _ b 2 _ _ z q1
 simpa using q2
section
variable {V:World} {p:Addr} {f:Bool} {cs:List (Nat × Bool)} {fa fc:V3} {γ:Nat->Value} {L:Nat->Bool} {w w':World} {i j b:Nat} {fin:Array Value}
theorem PendV.after {g:Bool} (h:RV.Pend V 27 i j fin γ L w) (hp:p.block < V.heap.size) (a:After p g w w'):RV.Pend V 27 i j fin γ L w':=by
 intro l
 obtain ⟨c,cs,h1,h2,h3,h4,h5⟩:=h l
 exact ⟨c,cs,h1,h2,(a.kept.2.2.2 c (Array.getElem?_eq_some_iff.1 h3).1 (by omega)).trans h3,h4,h5⟩
theorem PendV.lt (h:RV.Pend V 27 i j fin γ L w) (l:L i = true):γ i ≠ .pointer (some ⟨w.heap.size,0,none⟩):=by
 obtain ⟨b,cs,h1,_,h3,_⟩:=h l
 rw [h1]
 intro e
 have:=(Array.getElem?_eq_some_iff.1 h3).1
 simp only [Value.pointer.injEq,Option.some.injEq,Addr.mk.injEq,and_true] at e
 omega
theorem PendV.set3 (h:RV.Pend V 27 i j fin γ L w) (hne:L i = true->γ i ≠ .pointer (some ⟨b,0,none⟩)) (x y z:Value):RV.Pend V 27 i j fin γ L (((w.setCell ⟨b,0,none⟩ x).setCell ⟨b,1,none⟩ y).setCell ⟨b,2,none⟩ z):=by
 intro l
 obtain ⟨c,cs,h1,h2,h3,h4,h5⟩:=h l
 have hc:c ≠ b:=fun e=>hne l (by rw [h1,e])
 refine ⟨c,cs,h1,h2,?_,h4,h5⟩
 rw [Below.heap_setCell _ _ _ _ hc,Below.heap_setCell _ _ _ _ hc,Below.heap_setCell _ _ _ _ hc]
 exact h3
def a3 (x:V3):Array Value:=#[J Y x.x,J Y x.y,J Y x.z]
def FT (V:World) (p:Addr) (f:Bool) (cs:List (Nat × Bool)) (fa fc:V3) (γ:Nat->Value) (L:Nat->Bool) (w:World):Prop:=
 FG V p f cs L w/\RV.Pend V 27 13 15 (a3 fa) γ L w/\RV.Pend V 27 14 16 (a3 fc) γ L w/\(L 13 = true->L 14 = true->γ 13 ≠ γ 14)
theorem FT.other (h:FT V p f cs fa fc γ L w) (v:Value) (h6:13 ≠ i) (h7:14 ≠ i) (h8:15 ≠ i) (h9:16 ≠ i) (hi:(cs.all fun c=>decide (c.1 ≠ i)) = true):FT V p f cs fa fc (RV.upd γ i v) (more L i) w:=
 ⟨h.1.stay hi,h.2.1.other v h6 h8,h.2.2.1.other v h7 h9,by rw [RV.mn h6,RV.mn h7,RV.upd_ne _ _ h6,RV.upd_ne _ _ h7];exact h.2.2.2⟩
theorem FT.come {g:Bool} (h:FT V p f cs fa fc γ L w) (hp:p.block < V.heap.size) (v:Value) (h6:13 ≠ i) (h7:14 ≠ i) (h8:15 ≠ i) (h9:16 ≠ i) (hl:L i = false) (hi:(cs.filter fun c=>decide (c.1 = i)) = [(i,g)]) (ha:After p (orL f cs L || g) w w'):FT V p f cs fa fc (RV.upd γ i v) (more L i) w':=
 ⟨h.1.come hl hi ha,(PendV.after h.2.1 hp ha).other v h6 h8,(PendV.after h.2.2.1 hp ha).other v h7 h9,by rw [RV.mn h6,RV.mn h7,RV.upd_ne _ _ h6,RV.upd_ne _ _ h7];exact h.2.2.2⟩
theorem FT.made3 (h:FT V p f cs fa fc γ L w) (h8:L 15 = false) (hi:(cs.all fun c=>decide (c.1 ≠ 13)) = true):FT V p f cs fa fc (RV.upd γ 13 (.pointer (some ⟨w.heap.size,0,none⟩))) (more L 13) (w.alloc (.cells #[J Y 0,J Y 0,J Y 0] 27)):=by
 refine ⟨(h.1.stay hi).alloc _,RV.Pend.made _ rfl h.1.leaves.size h8 (by decide),(h.2.2.1.below (Jb w _)).other _ (by decide) (by decide),fun _ l7=>?_⟩
 rw [RV.mn (by decide)] at l7
 rw [RV.upd_self,RV.upd_ne _ _ (by decide)]
 exact Ne.symm (PendV.lt h.2.2.1 l7)
theorem FT.made4 (h:FT V p f cs fa fc γ L w) (h9:L 16 = false) (hi:(cs.all fun c=>decide (c.1 ≠ 14)) = true):FT V p f cs fa fc (RV.upd γ 14 (.pointer (some ⟨w.heap.size,0,none⟩))) (more L 14) (w.alloc (.cells #[J Y 0,J Y 0,J Y 0] 27)):=by
 refine ⟨(h.1.stay hi).alloc _,(h.2.1.below (Jb w _)).other _ (by decide) (by decide),RV.Pend.made _ rfl h.1.leaves.size h9 (by decide),fun l6 _=>?_⟩
 rw [RV.mn (by decide)] at l6
 rw [RV.upd_self,RV.upd_ne _ _ (by decide)]
 exact PendV.lt h.2.1 l6
theorem FT.fill3 (h:FT V p f cs fa fc γ L w) (hp:p.block < V.heap.size) (l6:L 13 = true) (hi:(cs.all fun c=>decide (c.1 ≠ 15)) = true) {cc:Array Value} (e:γ 13 = .pointer (some ⟨b,0,none⟩)) (hb:V.heap.size <= b) (hx:w.heap[b]? = some (.cells cc 27 (0,0))) (hc:cc.size = 3) {v:Value}:FT V p f cs fa fc (RV.upd γ 15 v) (more L 15) (((w.setCell ⟨b,0,none⟩ (J Y fa.x)).setCell ⟨b,1,none⟩ (J Y fa.y)).setCell ⟨b,2,none⟩ (J Y fa.z)):=by
 refine ⟨(((h.1.stay hi).put hp hb _ _).put hp hb _ _).put hp hb _ _,RV.Pend.filled e hb (Jib hx hc _ _ _) (by decide) _,(PendV.set3 h.2.2.1 (fun l7 e7=>h.2.2.2 l6 l7 (by rw [e,e7])) _ _ _).other _ (by decide) (by decide),?_⟩
 rw [RV.mn (by decide),RV.mn (by decide),RV.upd_ne _ _ (by decide),RV.upd_ne _ _ (by decide)]
 exact h.2.2.2
theorem FT.fill4 (h:FT V p f cs fa fc γ L w) (hp:p.block < V.heap.size) (l7:L 14 = true) (hi:(cs.all fun c=>decide (c.1 ≠ 16)) = true) {cc:Array Value} (e:γ 14 = .pointer (some ⟨b,0,none⟩)) (hb:V.heap.size <= b) (hx:w.heap[b]? = some (.cells cc 27 (0,0))) (hc:cc.size = 3) {v:Value}:FT V p f cs fa fc (RV.upd γ 16 v) (more L 16) (((w.setCell ⟨b,0,none⟩ (J Y fc.x)).setCell ⟨b,1,none⟩ (J Y fc.y)).setCell ⟨b,2,none⟩ (J Y fc.z)):=by
 refine ⟨(((h.1.stay hi).put hp hb _ _).put hp hb _ _).put hp hb _ _,(PendV.set3 h.2.1 (fun l6 e6=>h.2.2.2 l6 l7 (by rw [e,e6])) _ _ _).other _ (by decide) (by decide),RV.Pend.filled e hb (Jib hx hc _ _ _) (by decide) _,?_⟩
 rw [RV.mn (by decide),RV.mn (by decide),RV.upd_ne _ _ (by decide),RV.upd_ne _ _ (by decide)]
 exact h.2.2.2
end
theorem Jqh (fb fo:Nat) (f:Bool) (b:Bd) (R:List Value) (hR:Rest R) (hk:b.k = 2) (W:World) (hc:W.cell? ⟨fb,fo,none⟩ = some (.bool f)) (hf:W.frozen? ⟨fb,fo,none⟩ = false) :
  Calls Tryz.prog 22 #[.pointer (some ⟨fb,fo,none⟩),.agg (b.L R).toArray] W fun e W'=>e = .returned (Jbz b).val/\Hid (After ⟨fb,fo,none⟩ (f || Jed b) W W'):=by
 have:=Jix fb fo f b R hR W hc hf
 unfold if2 Jbq at this
 rw [if_pos hk,if_pos hk] at this
 exact this
theorem Jsq (fb fo:Nat) (f:Bool) (b:Bd) (R:List Value) (hR:Rest R) (hk:b.k = 2) (W:World) (hc:W.cell? ⟨fb,fo,none⟩ = some (.bool f)) (hf:W.frozen? ⟨fb,fo,none⟩ = false) :
  Calls Tryz.prog 28 #[.pointer (some ⟨fb,fo,none⟩),.agg (b.L R).toArray] W fun e W'=>e = .returned (Jao b b.l).val/\Hid (After ⟨fb,fo,none⟩ (f || Jd8 b b.l) W W'):=by
 have:=Jrb fb fo f b R hR W hc hf
 unfold if2 Jbq at this
 rw [if_pos hk,if_pos hk] at this
 exact this
def Jbh (b:Bd) (n:Int):V3:=Jt1 (Jbz b) n
def Ja3 (b:Bd) (n:Int):V3:=Jt1 (Jao b b.l) (n / 2)
def goD (b:Bd) (n:Int):Bd:=b.ws (Jap b.s (Jbh b n)) (Jcm b.q (Ja3 b n))
def Jmw (b:Bd) (n:Int):Bool:=Jed b || (Jl4 (Jbz b) n || (Jd8 b b.l || Jl4 (Jao b b.l) (n / 2)))
def goB (b:Bd) (n:Int):Bool:=Jmw b n || (Jef b.s (Jbh b n) || Jng b.q (Ja3 b n))
theorem Jsw (fb fo pw pb pn:Nat) (f:Bool) (b:Bd) (R0:List Value) (n:Int) (hk:b.k = 2) (hn:-9223372036854775808 <= n/\n <= 9223372036854775807) (hR:Rest R0) (V:World) (hc:V.cell? ⟨fb,fo,none⟩ = some (.bool f)) (hf:V.frozen? ⟨fb,fo,none⟩ = false)
  (Cw:CW V pw [.pointer (some ⟨fb,fo,none⟩)]) (Cb:CW V pb (b.L R0)) (Cn:CW V pn [J Y n]) (nw:pw ≠ fb) (nb:pb ≠ fb) (nn:pn ≠ fb) :
  Calls Tryz.prog 51 #[.pointer (some ⟨pw,0,none⟩),.pointer (some ⟨pb,0,none⟩),.pointer (some ⟨pn,0,none⟩)] V fun e W'=>e = .returned (.tuple #[])/\Hid (Clo ⟨fb,fo,none⟩ (f || goB b n) pb ((goD b n).L R0) V W'):=by
 have hz:Hid _:=J2 hR b
 have hR0:Hid _:=hR
 have hpV:(⟨fb,fo,none⟩:Addr).block < V.heap.size:=World.block_lt_of_cell? _ _ hc
 have hpV':fb < V.heap.size:=hpV
 have HS:Hid (Clo _ _ _ _ _ _):=Clo.start hc hf Cb
 clear hR
 go_enter func51,ntmps51
 go_upto_region 0 with fail
 refine RV.rs [.some (.pointer (some ⟨fb,fo,none⟩)),.some (.pointer (some ⟨fb,fo,none⟩)),.some (.agg (b.L R0).toArray),.some (.agg #[J Y (Jbz b).x,J Y (Jbz b).y,J Y (Jbz b).z]),.some (J Y n),.some (.agg #[J Y (Jbh b n).x,J Y (Jbh b n).y,J Y (Jbh b n).z]),.some (.pointer (some ⟨fb,fo,none⟩)),.some (.pointer (some ⟨fb,fo,none⟩)),.some (.agg (b.L R0).toArray),.some (.agg #[J Y (Jao b b.l).x,J Y (Jao b b.l).y,J Y (Jao b b.l).z]),.some (J Y n),.some (J Y (n / 2)),.some (.agg #[J Y (Ja3 b n).x,J Y (Ja3 b n).y,J Y (Ja3 b n).z]),none,none,none,none] [6,7,8,9,10,11,12,13,14,15,16,17,18,4,5,0,0] [(0,.pointer (some ⟨pw,0,none⟩)),(1,.pointer (some ⟨pb,0,none⟩)),(2,.pointer (some ⟨pn,0,none⟩))] (fun γ L w=>FT V ⟨fb,fo,none⟩ f [(3,Jed b),(5,Jl4 (Jbz b) n),(9,Jd8 b b.l),(12,Jl4 (Jao b b.l) (n / 2))] (Jbh b n) (Ja3 b n) γ L w) ⟨rfl,rfl,rfl,trivial⟩ ?_ ?_ ?_
 ·exact ⟨FG.start hc hf,RV.Pend.start rfl,RV.Pend.start rfl,fun e=>by cases e⟩
 ·intro D WA Z hD hWA hZ T
  simp only [RV.Outs,RV.Slots,Nat.reduceAdd] at T
  iterate 2 (refine RV.cc _ (RV.pu T (fun γ v L w hl h=>h.other v (by decide) (by decide) (by decide) (by decide) rfl) (fun γ L a w hH hl h9 k9=>⟨_,?_,rfl⟩)) ?_;· have q0:=hH.glob.1.at (Cw 0 _ rfl).1 nw;simp [JD,go_sem,h9,q0])
  refine RV.cc _ (RV.does_step (fun γ L a w hH hl hA=>by have h9:=T γ L a w hH;exact ⟨.agg (b.L R0).toArray,w,Jbp 39 _ rfl pb 0 (by simp [go_sem,h9]) _ _ (hH.glob.1.range Cb nb) underlying39 rfl hz.out,rfl,fun _ _ _ h=>h,hH.glob.other _ (by decide) (by decide) (by decide) (by decide) rfl⟩)) ?_
  refine RV.cc _ (RV.dc (fun γ L a w hH hl hA=>by have h9:=T γ L a w hH;have k9:=hA;simp [JC] at k9;exact ⟨22,#[.pointer (some ⟨fb,fo,none⟩),.agg (b.L R0).toArray],by simp [go_sem,h9,k9],JA (Jqh fb fo _ b R0 hR0.out hk w hH.glob.1.cell hH.glob.1.frozen) (by rintro e w2 ⟨rfl,ha⟩;exact ⟨_,rfl,rfl,fun j v _ h=>h.keep _,hH.glob.come hpV _ (by decide) (by decide) (by decide) (by decide) hl rfl ha.out⟩)⟩)) ?_
  (refine RV.cc _ (RV.pu T (fun γ v L w hl h=>h.other v (by decide) (by decide) (by decide) (by decide) rfl) (fun γ L a w hH hl h9 k9=>⟨_,?_,rfl⟩)) ?_;· have q0:=hH.glob.1.at (Cn 0 _ rfl).1 nn;simp [JD,go_sem,h9,q0])
  refine RV.cc _ (RV.dc (fun γ L a w hH hl hA=>by have h9:=T γ L a w hH;have k9:=hA;simp [JC] at k9;exact ⟨52,#[.pointer (some ⟨fb,fo,none⟩),.agg #[J Y (Jbz b).x,J Y (Jbz b).y,J Y (Jbz b).z],J Y n],by simp [go_sem,h9,k9],JA (Jqg fb fo _ (Jbz b) n w hH.glob.1.cell hH.glob.1.frozen) (by rintro e w2 ⟨rfl,ha⟩;exact ⟨_,rfl,rfl,fun j v _ h=>h.keep _,hH.glob.come hpV _ (by decide) (by decide) (by decide) (by decide) hl rfl ha.out⟩)⟩)) ?_
  iterate 2 (refine RV.cc _ (RV.pu T (fun γ v L w hl h=>h.other v (by decide) (by decide) (by decide) (by decide) rfl) (fun γ L a w hH hl h9 k9=>⟨_,?_,rfl⟩)) ?_;· have q0:=hH.glob.1.at (Cw 0 _ rfl).1 nw;simp [JD,go_sem,h9,q0])
  refine RV.cc _ (RV.does_step (fun γ L a w hH hl hA=>by have h9:=T γ L a w hH;exact ⟨.agg (b.L R0).toArray,w,Jbp 39 _ rfl pb 0 (by simp [go_sem,h9]) _ _ (hH.glob.1.range Cb nb) underlying39 rfl hz.out,rfl,fun _ _ _ h=>h,hH.glob.other _ (by decide) (by decide) (by decide) (by decide) rfl⟩)) ?_
  refine RV.cc _ (RV.dc (fun γ L a w hH hl hA=>by have h9:=T γ L a w hH;have k9:=hA;simp [JC] at k9;exact ⟨28,#[.pointer (some ⟨fb,fo,none⟩),.agg (b.L R0).toArray],by simp [go_sem,h9,k9],JA (Jsq fb fo _ b R0 hR0.out hk w hH.glob.1.cell hH.glob.1.frozen) (by rintro e w2 ⟨rfl,ha⟩;exact ⟨_,rfl,rfl,fun j v _ h=>h.keep _,hH.glob.come hpV _ (by decide) (by decide) (by decide) (by decide) hl rfl ha.out⟩)⟩)) ?_
  iterate 2 first
   | (refine RV.cc _ (RV.pu T (fun γ v L w hl h=>h.other v (by decide) (by decide) (by decide) (by decide) rfl) (fun γ L a w hH hl h9 k9=>⟨_,?_,rfl⟩)) ?_;· simp [JC] at k9;simp [JD,go_sem,h9,k9])
   | (refine RV.cc _ (RV.pu T (fun γ v L w hl h=>h.other v (by decide) (by decide) (by decide) (by decide) rfl) (fun γ L a w hH hl h9 k9=>⟨_,?_,rfl⟩)) ?_;· have q0:=hH.glob.1.at (Cn 0 _ rfl).1 nn;simp [JD,go_sem,h9,q0])
  refine RV.cc _ (RV.dc (fun γ L a w hH hl hA=>by have h9:=T γ L a w hH;have k9:=hA;simp [JC] at k9;exact ⟨52,#[.pointer (some ⟨fb,fo,none⟩),.agg #[J Y (Jao b b.l).x,J Y (Jao b b.l).y,J Y (Jao b b.l).z],J Y (n / 2)],by simp [go_sem,h9,k9],JA (Jqg fb fo _ (Jao b b.l) (n / 2) w hH.glob.1.cell hH.glob.1.frozen) (by rintro e w2 ⟨rfl,ha⟩;exact ⟨_,rfl,rfl,fun j v _ h=>h.keep _,hH.glob.come hpV _ (by decide) (by decide) (by decide) (by decide) hl rfl ha.out⟩)⟩)) ?_
  refine RV.cc _ (RV.does_step (fun γ L a w hH hl hA=>by exact ⟨.pointer (some ⟨w.heap.size,0,none⟩),w.alloc (.cells #[J Y 0,J Y 0,J Y 0] 27),by simp [JD,go_sem],trivial,fun j v _ h=>h.keep _,hH.glob.made3 (RV.ny hH (RV.wt (j:=15) (i:=13) hWA (by kernel_rfl)) hl) rfl⟩)) ?_
  refine RV.cc _ (RV.does_step (fun γ L a w hH hl hA=>by exact ⟨.pointer (some ⟨w.heap.size,0,none⟩),w.alloc (.cells #[J Y 0,J Y 0,J Y 0] 27),by simp [JD,go_sem],trivial,fun j v _ h=>h.keep _,hH.glob.made4 (RV.ny hH (RV.wt (j:=16) (i:=14) hWA (by kernel_rfl)) hl) rfl⟩)) ?_
  refine RV.cc _ (RV.does_store (fun γ L a w hH hl hA=>by have h9:=T γ L a w hH;have k9:=hA;simp [JC] at k9;have l0:L 13 = true:=hA ⟨13,.data⟩ (by simp) rfl;have e0:=hH.slot 13 3 (by rw [<- hD];rfl) l0;obtain ⟨q,cs,hb1,hb2,hb3,hb4,_⟩:=hH.glob.2.1 l0;rw [hb1] at e0;have hF:=fun v=>hH.glob.fill3 hpV l0 rfl hb1 hb2 hb3 hb4 (v:=v);obtain ⟨u0,u1,u2,rfl⟩:=Jro hb4;have z09:w.cell? ⟨q,0,none⟩ = some u0:=(by simp [World.cell?,hb3]);have z19:w.cell? ⟨q,1,none⟩ = some u1:=(by simp [World.cell?,hb3]);have z29:w.cell? ⟨q,2,none⟩ = some u2:=(by simp [World.cell?,hb3]);have zf:∀ o,w.frozen? ⟨q,o,none⟩ = false:=fun o=>(by simp [World.frozen?,hb3]);exact ⟨(((w.setCell ⟨q,0,none⟩ (J Y (Jbh b n).x)).setCell ⟨q,1,none⟩ (J Y (Jbh b n).y)).setCell ⟨q,2,none⟩ (J Y (Jbh b n).z)),by simp [JD,go_sem,e0,z09,z19,z29,zf,h9,k9],trivial,fun j v _ h=>h.keep _,hF _⟩)) ?_
  refine RV.cc _ (RV.does_store (fun γ L a w hH hl hA=>by have h9:=T γ L a w hH;have k9:=hA;simp [JC] at k9;have l0:L 14 = true:=hA ⟨14,.data⟩ (by simp) rfl;have e0:=hH.slot 14 4 (by rw [<- hD];rfl) l0;obtain ⟨q,cs,hb1,hb2,hb3,hb4,_⟩:=hH.glob.2.2.1 l0;rw [hb1] at e0;have hF:=fun v=>hH.glob.fill4 hpV l0 rfl hb1 hb2 hb3 hb4 (v:=v);obtain ⟨u0,u1,u2,rfl⟩:=Jro hb4;have z09:w.cell? ⟨q,0,none⟩ = some u0:=(by simp [World.cell?,hb3]);have z19:w.cell? ⟨q,1,none⟩ = some u1:=(by simp [World.cell?,hb3]);have z29:w.cell? ⟨q,2,none⟩ = some u2:=(by simp [World.cell?,hb3]);have zf:∀ o,w.frozen? ⟨q,o,none⟩ = false:=fun o=>(by simp [World.frozen?,hb3]);exact ⟨(((w.setCell ⟨q,0,none⟩ (J Y (Ja3 b n).x)).setCell ⟨q,1,none⟩ (J Y (Ja3 b n).y)).setCell ⟨q,2,none⟩ (J Y (Ja3 b n).z)),by simp [JD,go_sem,e0,z09,z19,z29,zf,h9,k9],trivial,fun j v _ h=>h.keep _,hF _⟩)) ?_
  exact RV.AllDo.nil
 ·intro γ w5 L9 hL hI9 hG9
  obtain ⟨b3,cs3,k1,k2,k3,_,k5⟩:=hG9.2.1 (hL 13 (by decide))
  obtain ⟨b4,cs4,m1,m2,m3,_,m5⟩:=hG9.2.2.1 (hL 14 (by decide))
  rw [k5 (hL 15 (by decide))] at k3
  rw [m5 (hL 16 (by decide))] at m3
  have hF8:=hG9.1
  have hFL:orL f [(3,Jed b),(5,Jl4 (Jbz b) n),(9,Jd8 b b.l),(12,Jl4 (Jao b b.l) (n / 2))] L9 = (f || Jmw b n):=by unfold orL Jmw;simp only [List.any_cons,List.any_nil,hL 3 (by decide),hL 5 (by decide),hL 9 (by decide),hL 12 (by decide),Bool.true_and,Bool.or_false]
  have HA8:Hid (After _ _ _ _):=hF8.leaves.done hF8.cell hF8.frozen
  rw [hFL] at HA8
  clear hL k5 m5 hF8 hFL hI9 hG9
  simp only [RV.putL,Act.put,List.setIfInBounds_toArray,List.set_cons_zero,List.set_cons_succ,Nat.reduceAdd]
  rw [k1,m1]
  have C3:CW w5 b3 [J Y (Jbh b n).x,J Y (Jbh b n).y,J Y (Jbh b n).z]:=Js5 k3
  have C4:CW w5 b4 [J Y (Ja3 b n).x,J Y (Ja3 b n).y,J Y (Ja3 b n).z]:=Js5 m3
  have n3:b3 ≠ fb:=by omega
  have n4:b4 ≠ fb:=by omega
  have HS:Hid (Clo _ _ _ _ _ _):=HS.out.same HA8.out nb
  have Cw:=Cw.after HA8.out nw
  have Cn:=Cn.after HA8.out nn
  have Cb:=HS.out.cw
  have hcV:=HS.out.cell
  have hfV:=HS.out.frozen
  clear k1 m1 k2 m2 k3 m3 HA8
  obtain ⟨V1,hV1⟩:∃ X,X = w5:=⟨_,rfl⟩
  rw [<- hV1] at HS Cw Cn Cb hcV hfV C3 C4 ⊢
  clear hV1
  go_upto_region 1 with fail
  refine RV.rs [.some (.pointer (some ⟨fb,fo,none⟩)),.some (.pointer (some ⟨pb,1,none⟩)),.some (.pointer (some ⟨pb,1,none⟩)),.some (.agg #[J Y b.s.x,J Y b.s.y,J Y b.s.z]),.some (.agg #[J Y ((Jbh b n).x),J Y ((Jbh b n).y),J Y ((Jbh b n).z)]),.some (.agg #[J Y ((Jap b.s (Jbh b n)).x),J Y ((Jap b.s (Jbh b n)).y),J Y ((Jap b.s (Jbh b n)).z)]),.some (.pointer (some ⟨fb,fo,none⟩)),.some (.pointer (some ⟨pb,1,none⟩)),.some (.pointer (some ⟨pb,4,none⟩)),.some (.agg #[J Y b.q.w,J Y b.q.x,J Y b.q.y,J Y b.q.z]),.some (.agg #[J Y ((Ja3 b n).x),J Y ((Ja3 b n).y),J Y ((Ja3 b n).z)]),.some (.agg #[J Y ((Jcm b.q (Ja3 b n)).w),J Y ((Jcm b.q (Ja3 b n)).x),J Y ((Jcm b.q (Ja3 b n)).y),J Y ((Jcm b.q (Ja3 b n)).z)]),.some (.agg #[J Y ((Jap b.s (Jbh b n)).x),J Y ((Jap b.s (Jbh b n)).y),J Y ((Jap b.s (Jbh b n)).z),J Y ((Jcm b.q (Ja3 b n)).w),J Y ((Jcm b.q (Ja3 b n)).x),J Y ((Jcm b.q (Ja3 b n)).y),J Y ((Jcm b.q (Ja3 b n)).z)]),.some (.pointer (some ⟨pb,1,none⟩)),none] [19,20,21,22,23,24,25,26,27,28,29,30,31,32,0] [(0,.pointer (some ⟨pw,0,none⟩)),(1,.pointer (some ⟨pb,0,none⟩)),(3,.pointer (some ⟨b3,0,none⟩)),(4,.pointer (some ⟨b4,0,none⟩))] (fun γ L w9=>FGS V1 ⟨fb,fo,none⟩ (f || Jmw b n) [(5,Jef b.s (Jbh b n)),(11,Jng b.q (Ja3 b n))] 14 (fun w=>(((((((w.setCell ⟨pb,1,none⟩ (J Y ((Jap b.s (Jbh b n)).x))).setCell ⟨pb,2,none⟩ (J Y ((Jap b.s (Jbh b n)).y))).setCell ⟨pb,3,none⟩ (J Y ((Jap b.s (Jbh b n)).z))).setCell ⟨pb,4,none⟩ (J Y ((Jcm b.q (Ja3 b n)).w))).setCell ⟨pb,5,none⟩ (J Y ((Jcm b.q (Ja3 b n)).x))).setCell ⟨pb,6,none⟩ (J Y ((Jcm b.q (Ja3 b n)).y))).setCell ⟨pb,7,none⟩ (J Y ((Jcm b.q (Ja3 b n)).z)))) L w9) ⟨rfl,rfl,rfl,rfl,trivial⟩ ?_ ?_ ?_
  ·exact FGS.start hcV hfV
  ·intro D WA Z hD hWA hZ T
   simp only [RV.Outs,RV.Slots,Nat.reduceAdd] at T
   iterate 5 first
    | (refine RV.cc _ (RV.pu T (fun γ v L w hl h=>h.stay (by decide) rfl) (fun γ L a w hH hl h9 k9=>⟨_,?_,rfl⟩)) ?_;· simp [JD,go_sem,h9])
    | (refine RV.cc _ (RV.pu T (fun γ v L w hl h=>h.stay (by decide) rfl) (fun γ L a w hH hl h9 k9=>⟨_,?_,rfl⟩)) ?_;· simp [JC] at k9;simp [JD,go_sem,h9,k9])
    | (refine RV.cc _ (RV.pu T (fun γ v L w hl h=>h.stay (by decide) rfl) (fun γ L a w hH hl h9 k9=>⟨_,?_,rfl⟩)) ?_;· have hG:=hH.glob.early (RV.ny hH (RV.wt (j:=14) hWA (by kernel_rfl)) hl);have q0:=hG.at (Cb 1 _ rfl).1 nb;have q1:=hG.at (Cb 2 _ rfl).1 nb;have q2:=hG.at (Cb 3 _ rfl).1 nb;simp [JC] at k9;simp [JD,go_sem,h9,k9,q0,q1,q2])
    | (refine RV.cc _ (RV.pu T (fun γ v L w hl h=>h.stay (by decide) rfl) (fun γ L a w hH hl h9 k9=>⟨_,?_,rfl⟩)) ?_;· have hG:=hH.glob.early (RV.ny hH (RV.wt (j:=14) hWA (by kernel_rfl)) hl);have q0:=hG.at (Cw 0 _ rfl).1 nw;have q1:=hG.at (C3 0 _ rfl).1 n3;have q2:=hG.at (C3 1 _ rfl).1 n3;have q3:=hG.at (C3 2 _ rfl).1 n3;simp [JD,go_sem,h9,q0,q1,q2,q3])
   refine RV.cc _ (RV.dc (fun γ L a w hH hl hA=>by have h9:=T γ L a w hH;have k9:=hA;simp [JC] at k9;have hG:=hH.glob.early (RV.ny hH (RV.wt (j:=14) (i:=5) hWA (by kernel_rfl)) hl);exact ⟨53,#[.pointer (some ⟨fb,fo,none⟩),.agg #[J Y b.s.x,J Y b.s.y,J Y b.s.z],.agg #[J Y ((Jbh b n).x),J Y ((Jbh b n).y),J Y ((Jbh b n).z)]],by simp [go_sem,h9,k9],JA (Jnc fb fo _ b.s (Jbh b n) w hG.cell hG.frozen) (by rintro e w2 ⟨rfl,ha⟩;exact ⟨_,rfl,rfl,fun j v _ h=>h.keep _,FGS.come hG (by decide) (RV.ny hH (RV.wt (j:=14) (i:=5) hWA (by kernel_rfl)) hl) hl rfl ha.out⟩)⟩)) ?_
   iterate 5 first
    | (refine RV.cc _ (RV.pu T (fun γ v L w hl h=>h.stay (by decide) rfl) (fun γ L a w hH hl h9 k9=>⟨_,?_,rfl⟩)) ?_;· simp [JD,go_sem,h9])
    | (refine RV.cc _ (RV.pu T (fun γ v L w hl h=>h.stay (by decide) rfl) (fun γ L a w hH hl h9 k9=>⟨_,?_,rfl⟩)) ?_;· simp [JC] at k9;simp [JD,go_sem,h9,k9])
    | (refine RV.cc _ (RV.pu T (fun γ v L w hl h=>h.stay (by decide) rfl) (fun γ L a w hH hl h9 k9=>⟨_,?_,rfl⟩)) ?_;· have hG:=hH.glob.early (RV.ny hH (RV.wt (j:=14) hWA (by kernel_rfl)) hl);have q0:=hG.at (Cw 0 _ rfl).1 nw;have q1:=hG.at (C4 0 _ rfl).1 n4;have q2:=hG.at (C4 1 _ rfl).1 n4;have q3:=hG.at (C4 2 _ rfl).1 n4;simp [JD,go_sem,h9,q0,q1,q2,q3])
    | (refine RV.cc _ (RV.pu T (fun γ v L w hl h=>h.stay (by decide) rfl) (fun γ L a w hH hl h9 k9=>⟨_,?_,rfl⟩)) ?_;· have hG:=hH.glob.early (RV.ny hH (RV.wt (j:=14) hWA (by kernel_rfl)) hl);have q0:=hG.at (Cb 4 _ rfl).1 nb;have q1:=hG.at (Cb 5 _ rfl).1 nb;have q2:=hG.at (Cb 6 _ rfl).1 nb;have q3:=hG.at (Cb 7 _ rfl).1 nb;simp [JC] at k9;simp [JD,go_sem,h9,k9,q0,q1,q2,q3])
   refine RV.cc _ (RV.dc (fun γ L a w hH hl hA=>by have h9:=T γ L a w hH;have k9:=hA;simp [JC] at k9;have hG:=hH.glob.early (RV.ny hH (RV.wt (j:=14) (i:=11) hWA (by kernel_rfl)) hl);exact ⟨54,#[.pointer (some ⟨fb,fo,none⟩),.agg #[J Y b.q.w,J Y b.q.x,J Y b.q.y,J Y b.q.z],.agg #[J Y ((Ja3 b n).x),J Y ((Ja3 b n).y),J Y ((Ja3 b n).z)]],by simp [go_sem,h9,k9],JA (Jtq fb fo _ b.q (Ja3 b n) w hG.cell hG.frozen) (by rintro e w2 ⟨rfl,ha⟩;exact ⟨_,rfl,rfl,fun j v _ h=>h.keep _,FGS.come hG (by decide) (RV.ny hH (RV.wt (j:=14) (i:=11) hWA (by kernel_rfl)) hl) hl rfl ha.out⟩)⟩)) ?_
   iterate 2 first
    | (refine RV.cc _ (RV.pu T (fun γ v L w hl h=>h.stay (by decide) rfl) (fun γ L a w hH hl h9 k9=>⟨_,?_,rfl⟩)) ?_;· simp [JD,go_sem,h9])
    | (refine RV.cc _ (RV.pu T (fun γ v L w hl h=>h.stay (by decide) rfl) (fun γ L a w hH hl h9 k9=>⟨_,?_,rfl⟩)) ?_;· simp [JC] at k9;simp [JD,go_sem,h9,k9])
   refine RV.cc _ (RV.does_store (fun γ L a w hH hl hA=>by have h9:=T γ L a w hH;have k9:=hA;simp [JC] at k9;have hG:=hH.glob.early hl;have z0:=hG.at (Cb 1 _ rfl).1 nb;have zf0:=hG.open (Cb 1 _ rfl).1 (Cb 1 _ rfl).2 nb;have z1:=hG.at (Cb 2 _ rfl).1 nb;have zf1:=hG.open (Cb 2 _ rfl).1 (Cb 2 _ rfl).2 nb;have z2:=hG.at (Cb 3 _ rfl).1 nb;have zf2:=hG.open (Cb 3 _ rfl).1 (Cb 3 _ rfl).2 nb;have z3:=hG.at (Cb 4 _ rfl).1 nb;have zf3:=hG.open (Cb 4 _ rfl).1 (Cb 4 _ rfl).2 nb;have z4:=hG.at (Cb 5 _ rfl).1 nb;have zf4:=hG.open (Cb 5 _ rfl).1 (Cb 5 _ rfl).2 nb;have z5:=hG.at (Cb 6 _ rfl).1 nb;have zf5:=hG.open (Cb 6 _ rfl).1 (Cb 6 _ rfl).2 nb;have z6:=hG.at (Cb 7 _ rfl).1 nb;have zf6:=hG.open (Cb 7 _ rfl).1 (Cb 7 _ rfl).2 nb;exact ⟨(((((((w.setCell ⟨pb,1,none⟩ (J Y ((Jap b.s (Jbh b n)).x))).setCell ⟨pb,2,none⟩ (J Y ((Jap b.s (Jbh b n)).y))).setCell ⟨pb,3,none⟩ (J Y ((Jap b.s (Jbh b n)).z))).setCell ⟨pb,4,none⟩ (J Y ((Jcm b.q (Ja3 b n)).w))).setCell ⟨pb,5,none⟩ (J Y ((Jcm b.q (Ja3 b n)).x))).setCell ⟨pb,6,none⟩ (J Y ((Jcm b.q (Ja3 b n)).y))).setCell ⟨pb,7,none⟩ (J Y ((Jcm b.q (Ja3 b n)).z))),by simp [JD,go_sem,z0,zf0,z1,zf1,z2,zf2,z3,zf3,z4,zf4,z5,zf5,z6,zf6,h9,k9],trivial,fun j v _ h=>h.keep _,FGS.store (S:=fun w=>(((((((w.setCell ⟨pb,1,none⟩ (J Y ((Jap b.s (Jbh b n)).x))).setCell ⟨pb,2,none⟩ (J Y ((Jap b.s (Jbh b n)).y))).setCell ⟨pb,3,none⟩ (J Y ((Jap b.s (Jbh b n)).z))).setCell ⟨pb,4,none⟩ (J Y ((Jcm b.q (Ja3 b n)).w))).setCell ⟨pb,5,none⟩ (J Y ((Jcm b.q (Ja3 b n)).x))).setCell ⟨pb,6,none⟩ (J Y ((Jcm b.q (Ja3 b n)).y))).setCell ⟨pb,7,none⟩ (J Y ((Jcm b.q (Ja3 b n)).z)))) hG rfl⟩)) ?_
   exact RV.AllDo.nil
  ·intro γ w5 L9 hL hI9 hG9
   obtain ⟨w8,hF8,rfl⟩:=hG9.late (hL 14 (by decide))
   have hFL:orL (f || Jmw b n) [(5,Jef b.s (Jbh b n)),(11,Jng b.q (Ja3 b n))] L9 = ((f || Jmw b n) || (Jef b.s (Jbh b n) || Jng b.q (Ja3 b n))):=by unfold orL;simp only [List.any_cons,List.any_nil,hL 5 (by decide),hL 11 (by decide),Bool.true_and,Bool.or_false,Bool.or_assoc]
   have HA8:Hid (After _ _ _ _):=hF8.leaves.done hF8.cell hF8.frozen
   rw [hFL] at HA8
   clear hF8 hFL
   clear hL hI9 hG9
   simp only [RV.putL,Act.put,List.setIfInBounds_toArray,List.set_cons_zero,List.set_cons_succ]
   have HS:Hid (Clo _ _ _ _ _ _):=HS.out.same HA8.out nb
   clear HA8
   go_wp2_with (fail)
   go_end0
   refine ⟨rfl,?_⟩
   have h9:=(HS.out.set3 nb 1 (J Y (Jap b.s (Jbh b n)).x) (J Y (Jap b.s (Jbh b n)).y) (J Y (Jap b.s (Jbh b n)).z) (Jhm hR0.out (by decide))).set nb 4 (J Y (Jcm b.q (Ja3 b n)).w) (by simp [hR0.out.all])
   have h9:=h9.set3 nb 5 (J Y (Jcm b.q (Ja3 b n)).x) (J Y (Jcm b.q (Ja3 b n)).y) (J Y (Jcm b.q (Ja3 b n)).z) (by simp [hR0.out.all])
   rw [Bool.or_assoc] at h9
   exact h9
theorem Jta (fb fo:Nat) (f:Bool) (b:Bd) (R:List Value) (pv:Value) (Ls:List Pt) (n:Int) (hn:-9223372036854775808 <= n/\n <= 9223372036854775807) (hR:RestP R pv) (W:World) (hc:W.cell? ⟨fb,fo,none⟩ = some (.bool f)) (hf:W.frozen? ⟨fb,fo,none⟩ = false) (hv:Lies W pv Ls) (hl:Ls.length <= 100000) :
  Calls Tryz.prog 12 #[.pointer (some ⟨fb,fo,none⟩),.agg (b.L R).toArray,J Y n] W fun e W'=>∃ u,e = .returned (.agg ((ifB b (goD b n)).L (R.set 5 u)).toArray)/\Hid (After ⟨fb,fo,none⟩ (f || Jbq b.k (goB b n)) W W')/\Hid (W'.ownsRow W.heap.size 23 3 u Ls.length (fl3 Ls)):=by
 have hbW:fb < W.heap.size:=World.block_lt_of_cell? _ _ hc
 have hz:Hid _:=J2 hR.rest b
 obtain ⟨V,hV⟩:∃ V,V = ((((W.alloc (.cells #[.pointer (some ⟨fb,fo,none⟩)] 45)).alloc (.cells (b.L R).toArray 39)).alloc (.cells #[J Y n] 3)).alloc (.cells #[J Y 0,J Y 0,J Y 0,J Y 0,J Y 0,J Y 0,J Y 0,J Y 0,J Y 0,J Y 0,J Y 0,J Y 0,J Y 0,J Y 0,J Y 0,J Y 0,J Y 0,J Y 0,J Y 0,J Y 0,J Y 0,J Y 0,J Y 0,.slice none 0 0,J Y 0,J Y 0,J Y 0,.bool false,J Y 0,.bool false,.bool false] 39)):=⟨_,rfl⟩
 have hb0:=Jb W (.cells #[.pointer (some ⟨fb,fo,none⟩)] 45)
 have hb1:=Jb (W.alloc (.cells #[.pointer (some ⟨fb,fo,none⟩)] 45)) (.cells (b.L R).toArray 39)
 have hb2:=Jb ((W.alloc (.cells #[.pointer (some ⟨fb,fo,none⟩)] 45)).alloc (.cells (b.L R).toArray 39)) (.cells #[J Y n] 3)
 have hb3:=Jb (((W.alloc (.cells #[.pointer (some ⟨fb,fo,none⟩)] 45)).alloc (.cells (b.L R).toArray 39)).alloc (.cells #[J Y n] 3)) (.cells #[J Y 0,J Y 0,J Y 0,J Y 0,J Y 0,J Y 0,J Y 0,J Y 0,J Y 0,J Y 0,J Y 0,J Y 0,J Y 0,J Y 0,J Y 0,J Y 0,J Y 0,J Y 0,J Y 0,J Y 0,J Y 0,J Y 0,J Y 0,.slice none 0 0,J Y 0,J Y 0,J Y 0,.bool false,J Y 0,.bool false,.bool false] 39)
 have Cw:CW V (W.heap.size) [.pointer (some ⟨fb,fo,none⟩)]:=by
  have h9:=(((CW.new W [.pointer (some ⟨fb,fo,none⟩)] 45).step hb1).step hb2).step hb3
  rw [hV];exact h9
 have Cb:CW V (W.heap.size + 1) (b.L R):=by
  have h9:=((CW.new (W.alloc (.cells #[.pointer (some ⟨fb,fo,none⟩)] 45)) (b.L R) 39).step hb2).step hb3
  simp only [JE] at h9
  rw [hV];exact h9
 have Cn:CW V (W.heap.size + 1 + 1) [J Y n]:=by
  have h9:=(CW.new ((W.alloc (.cells #[.pointer (some ⟨fb,fo,none⟩)] 45)).alloc (.cells (b.L R).toArray 39)) [J Y n] 3).step hb3
  simp only [JE] at h9
  rw [hV];exact h9
 have Cr:CW V (W.heap.size + 1 + 1 + 1) [J Y 0,J Y 0,J Y 0,J Y 0,J Y 0,J Y 0,J Y 0,J Y 0,J Y 0,J Y 0,J Y 0,J Y 0,J Y 0,J Y 0,J Y 0,J Y 0,J Y 0,J Y 0,J Y 0,J Y 0,J Y 0,J Y 0,J Y 0,.slice none 0 0,J Y 0,J Y 0,J Y 0,.bool false,J Y 0,.bool false,.bool false]:=by
  have h9:=CW.new (((W.alloc (.cells #[.pointer (some ⟨fb,fo,none⟩)] 45)).alloc (.cells (b.L R).toArray 39)).alloc (.cells #[J Y n] 3)) [J Y 0,J Y 0,J Y 0,J Y 0,J Y 0,J Y 0,J Y 0,J Y 0,J Y 0,J Y 0,J Y 0,J Y 0,J Y 0,J Y 0,J Y 0,J Y 0,J Y 0,J Y 0,J Y 0,J Y 0,J Y 0,J Y 0,J Y 0,.slice none 0 0,J Y 0,J Y 0,J Y 0,.bool false,J Y 0,.bool false,.bool false] 39
  simp only [JE] at h9
  rw [hV];exact h9
 have hB:Below W.heap.size W V:=by rw [hV];exact (Jf (Jf (Jf hb0 hb1) hb2) hb3)
 have hcV:=Ja hB hc
 have hfV:=Jt hB hc hf
 have HLV:Hid (Leaves ⟨fb,fo,none⟩ W V):=(Leaves.refl _ _).step hB
 clear hb0 hb1 hb2 hb3
 have hWV:W.heap.size <= V.heap.size:=hB.size
 have HCP:Hid _:=Jg3 b R pv Ls hR V (hv.below hB) hl
 clear hc hf hv hB
 go_enter func12,ntmps12
 go_upto_region 1 with fail
 rw [<- hV]
 clear hV
 obtain ⟨pr,hpr⟩:∃ p,p = W.heap.size + 1 + 1 + 1:=⟨_,rfl⟩
 obtain ⟨pn,hpn⟩:∃ p,p = W.heap.size + 1 + 1:=⟨_,rfl⟩
 obtain ⟨pb,hpb⟩:∃ p,p = W.heap.size + 1:=⟨_,rfl⟩
 obtain ⟨pw,hpw⟩:∃ p,p = W.heap.size:=⟨_,rfl⟩
 rw [<- hpr] at Cr
 rw [<- hpn] at Cn
 rw [<- hpb] at Cb
 rw [<- hpw] at Cw
 rw [<- hpr,<- hpn,<- hpb,<- hpw]
 have nw:pw ≠ fb:=by omega
 have nb:pb ≠ fb:=by omega
 have nn:pn ≠ fb:=by omega
 have nr:pr ≠ fb:=by omega
 have bw:pw ≠ pb:=by omega
 have bn:pn ≠ pb:=by omega
 have br:pr ≠ pb:=by omega
 have nr':fb ≠ pr:=by omega
 have nb':fb ≠ pb:=by omega
 have hWb:W.heap.size <= pb:=by omega
 have hWr:W.heap.size <= pr:=by omega
 have hbV:pb < V.heap.size:=Cb.lt
 have hrV:pr < V.heap.size:=Cr.lt
 have hZl:([J Y 0,J Y 0,J Y 0,J Y 0,J Y 0,J Y 0,J Y 0,J Y 0,J Y 0,J Y 0,J Y 0,J Y 0,J Y 0,J Y 0,J Y 0,J Y 0,J Y 0,J Y 0,J Y 0,J Y 0,J Y 0,J Y 0,J Y 0,.slice none 0 0,J Y 0,J Y 0,J Y 0,.bool false,J Y 0,.bool false,.bool false]:List Value).length = 31:=rfl
 generalize ([J Y 0,J Y 0,J Y 0,J Y 0,J Y 0,J Y 0,J Y 0,J Y 0,J Y 0,J Y 0,J Y 0,J Y 0,J Y 0,J Y 0,J Y 0,J Y 0,J Y 0,J Y 0,J Y 0,J Y 0,J Y 0,J Y 0,J Y 0,.slice none 0 0,J Y 0,J Y 0,J Y 0,.bool false,J Y 0,.bool false,.bool false]:List Value) = zl at *
 have HRG:Hid (World.rangeAt V pb 0 (b.L R)):=Cb.range
 clear hpw hpb hpn hpr
 go_wp2_with (refine wpList_load_mid rfl 39 _ rfl pb 0 rfl _ _ HRG.out underlying39 rfl hz.out ?_)
 refine JA HCP.out ?_
 rintro e W1 ⟨u,rfl,HR⟩
 have hR2:=hR.set (Jdf HR.out.row)
 have hb1:=HR.out.below
 have Cw:=Cw.step hb1
 have Cb:=Cb.step hb1
 have Cn:=Cn.step hb1
 have Cr:=Cr.step hb1
 have HL1:=HLV.out.step (hb1.mono HLV.out.size)
 have hc1:=Ja hb1 hcV
 have hf1:=Jt hb1 hcV hfV
 have nub:u.ownBlock ≠ some pb:=fun e=>by have:=(HR.out.row.lt _ e).1;omega
 have nuf:u.ownBlock ≠ some fb:=fun e=>by have:=(HR.out.row.lt _ e).1;omega
 have nur:u.ownBlock ≠ some pr:=fun e=>by have:=(HR.out.row.lt _ e).1;omega
 have HO2:Hid _:=Jbu (Go.Joins.ownsRow_le HR.out.row hWV) nub (b.L (R.set 5 u)) 0
 have HTH:Hid (World.there W1 pb 0 (b.L (R.set 5 u)).toArray.size):=Cb.thereB hR.rest hR2.rest
 have hz2:Hid _:=J2 hR2.rest b
 have hy2:Hid _:=Jaa hR2.rest b
 have h12:Hid _:=hR2.rest.each b
 have Cb:=Cb.sets (us:=b.L (R.set 5 u)) (by rw [hR.rest.all,hR2.rest.all])
 have Cw:=Cw.apart (us:=b.L (R.set 5 u)) bw
 have Cn:=Cn.apart (us:=b.L (R.set 5 u)) bn
 have Cr:=Cr.apart (us:=b.L (R.set 5 u)) br
 have HL2:Hid (Leaves ⟨fb,fo,none⟩ W (W1.setCells pb 0 (b.L (R.set 5 u)))):=HL1.sets hWb _
 have hc2:=(Jcc (w:=W1) (vs:=b.L (R.set 5 u)) nb').trans hc1
 have hf2:=(World.frozen?_setCells pb (b.L (R.set 5 u)) 0 W1 ⟨fb,fo,none⟩).trans hf1
 have HRG2:Hid (World.rangeAt (W1.setCells pb 0 (b.L (R.set 5 u))) pb 0 (b.L (R.set 5 u))):=Cb.range
 clear HCP HRG hcV hfV HLV HL1 hc1 hf1 hb1 HR
 by_cases hk:b.k = 2
 ·have HC:Hid _:=Jgx b (R.set 5 u) hk 51 #[.pointer (some ⟨pw,0,none⟩),.pointer (some ⟨pb,0,none⟩),.pointer (some ⟨pn,0,none⟩)] (enters_of func51 (by kernel_rfl) rfl) (fun X=>Hid (Clo ⟨fb,fo,none⟩ (f || goB b n) pb ((goD b n).L (R.set 5 u)) ((W1.setCells pb 0 (b.L (R.set 5 u))).alloc (.cells (b.L (R.set 5 u)).toArray 39)) X)) (W1.setCells pb 0 (b.L (R.set 5 u)))
   (Jsw fb fo pw pb pn f b (R.set 5 u) n hk hn hR2.rest ((W1.setCells pb 0 (b.L (R.set 5 u))).alloc (.cells (b.L (R.set 5 u)).toArray 39)) (Ja (Jb _ _) hc2) (Jt (Jb _ _) hc2 hf2) (Cw.step (Jb _ _)) (Cb.step (Jb _ _)) (Cn.step (Jb _ _)) nw nb nn)
  have HRR:Hid (CW _ _ _):=Cr
  clear Cw Cb Cn Cr
  go_wp2_with (first | refine wpList_store_mid rfl 39 _ _ rfl pb 0 _ rfl rfl HTH.out hy2.out h12.out ?_ | refine wpList_load_mid rfl 39 _ rfl pb 0 rfl _ _ HRG2.out underlying39 rfl hz2.out ?_)
  refine JA HC.out ?_
  rintro e W3 ⟨rfl,HK⟩
  have HL3:Hid (Leaves ⟨fb,fo,none⟩ W W3):=(HL2.out.step ((Jb (W1.setCells pb 0 (b.L (R.set 5 u))) _).mono HL2.out.size)).two HK.out.two hbW hWb
  have hc3:=HK.out.cell
  have hf3:=HK.out.frozen
  have Cb3:=HK.out.cw
  have Cr3:=(HRR.out.step (Jb _ _)).two HK.out.two nr br
  have HO3:Hid _:=Jle (Jq HO2.out (Jb _ _)) HK.out.two nuf nub
  clear HC HK HRG2 HTH hc2 hf2 HO2 HL2 HRR
  have hz3:Hid _:=J2 hR2.rest ((goD b n))
  have hy3:Hid _:=Jaa hR2.rest ((goD b n))
  have h13:Hid _:=hR2.rest.each ((goD b n))
  have HRG3:Hid (World.rangeAt W3 pb 0 (((goD b n)).L (R.set 5 u))):=Cb3.range
  have HTH3:Hid (World.there W3 pr 0 (((goD b n)).L (R.set 5 u)).toArray.size):=Cr3.there31 hZl hR2.rest
  have HX3:Hid _:=(Cr3.sets (us:=((goD b n)).L (R.set 5 u)) (by rw [hR2.rest.all,hZl])).range
  have HL4:Hid (Leaves ⟨fb,fo,none⟩ W (W3.setCells pr 0 (((goD b n)).L (R.set 5 u)))):=HL3.out.sets hWr _
  have hc4:Hid _:=(Jcc (w:=W3) (vs:=((goD b n)).L (R.set 5 u)) nr').trans hc3
  have hf4:Hid _:=(World.frozen?_setCells pr (((goD b n)).L (R.set 5 u)) 0 W3 ⟨fb,fo,none⟩).trans hf3
  have HO4:Hid _:=Jbu HO3.out nur (((goD b n)).L (R.set 5 u)) 0
  generalize hcs:((goD b n)).L (R.set 5 u) = cs at *
  have HCS:Hid _:=hcs
  clear hcs Cb3 Cr3 HL3 HO3 hc3 hf3
  go_wp2_with (first | refine wpList_load_mid rfl 39 _ rfl pb 0 rfl _ _ HRG3.out underlying39 rfl hz3.out ?_ | refine wpList_store_mid rfl 39 _ _ rfl pr 0 _ rfl rfl HTH3.out hy3.out h13.out ?_)
  refine bodyPost_ret (Jbm 6 39 results12 ⟨pr,0,none⟩ rfl (run_loadVar_mid _ pr 0 39 cs _ HX3.out underlying39 rfl hz3.out)) rfl ?_
  refine ⟨u,by rw [<- HCS.out,ifB,if_pos hk],?_,HO4⟩
  rw [Jbq,if_pos hk]
  exact HL4.out.done hc4.out hf4.out
 ·have HC:Hid _:=Jjt b (R.set 5 u) (.func (.func 51) #[] #[.pointer (some ⟨pw,0,none⟩),.pointer (some ⟨pb,0,none⟩),.pointer (some ⟨pn,0,none⟩)]) hk (W1.setCells pb 0 (b.L (R.set 5 u)))
  have HRR:Hid (CW _ _ _):=Cr
  have HBB:Hid (CW _ _ _):=Cb
  clear Cw Cb Cn Cr
  go_wp2_with (first | refine wpList_store_mid rfl 39 _ _ rfl pb 0 _ rfl rfl HTH.out hy2.out h12.out ?_ | refine wpList_load_mid rfl 39 _ rfl pb 0 rfl _ _ HRG2.out underlying39 rfl hz2.out ?_)
  refine JA HC.out ?_
  rintro e W3 ⟨rfl,HK⟩
  have HL3:Hid (Leaves ⟨fb,fo,none⟩ W W3):=HL2.out.step (HK.out.mono HL2.out.size)
  have hc3:=Ja HK.out hc2
  have hf3:=Jt HK.out hc2 hf2
  have Cb3:=HBB.out.step HK.out
  have Cr3:=HRR.out.step HK.out
  have HO3:Hid _:=Jq HO2.out HK.out
  clear HC HK HRG2 HTH hc2 hf2 HO2 HL2 HRR HBB
  have hz3:Hid _:=J2 hR2.rest (b)
  have hy3:Hid _:=Jaa hR2.rest (b)
  have h13:Hid _:=hR2.rest.each (b)
  have HRG3:Hid (World.rangeAt W3 pb 0 ((b).L (R.set 5 u))):=Cb3.range
  have HTH3:Hid (World.there W3 pr 0 ((b).L (R.set 5 u)).toArray.size):=Cr3.there31 hZl hR2.rest
  have HX3:Hid _:=(Cr3.sets (us:=(b).L (R.set 5 u)) (by rw [hR2.rest.all,hZl])).range
  have HL4:Hid (Leaves ⟨fb,fo,none⟩ W (W3.setCells pr 0 ((b).L (R.set 5 u)))):=HL3.out.sets hWr _
  have hc4:Hid _:=(Jcc (w:=W3) (vs:=(b).L (R.set 5 u)) nr').trans hc3
  have hf4:Hid _:=(World.frozen?_setCells pr ((b).L (R.set 5 u)) 0 W3 ⟨fb,fo,none⟩).trans hf3
  have HO4:Hid _:=Jbu HO3.out nur ((b).L (R.set 5 u)) 0
  generalize hcs:(b).L (R.set 5 u) = cs at *
  have HCS:Hid _:=hcs
  clear hcs Cb3 Cr3 HL3 HO3 hc3 hf3
  go_wp2_with (first | refine wpList_load_mid rfl 39 _ rfl pb 0 rfl _ _ HRG3.out underlying39 rfl hz3.out ?_ | refine wpList_store_mid rfl 39 _ _ rfl pr 0 _ rfl rfl HTH3.out hy3.out h13.out ?_)
  refine bodyPost_ret (Jbm 6 39 results12 ⟨pr,0,none⟩ rfl (run_loadVar_mid _ pr 0 39 cs _ HX3.out underlying39 rfl hz3.out)) rfl ?_
  refine ⟨u,by rw [<- HCS.out,ifB,if_neg hk],?_,HO4⟩
  rw [Jbq,if_neg hk,Bool.or_false]
  exact HL4.out.done hc4.out hf4.out
end
section
open Go.RowKit Go.Shelf Fx
def inV (a:V3) (m:Int):Bool:=inR a.x (-m) m && (inR a.y (-m) m && inR a.z (-m) m)
def Jpg (q:V4):Bool:=inR ((Jae [q.w,q.x,q.y,q.z]).getD 0) 4294967288 4294967304
def Js3 (b:Bd):Bool:=inR b.m 16777216 1099511627776 && (inR b.i.x 4096 562949953421312 && (inR b.i.y 4096 562949953421312 && inR b.i.z 4096 562949953421312))
def Jke (b:Bd) (fr:Int):Bool:=(decide (b.k = 1) || decide (b.k = 2)) && (inV b.s 4398046511104 && (Jpg b.q && (inR fr 0 4294967296 && (inV b.p 18014398509481984 && inV b.l 18014398509481984))))
def Joz (b:Bd) (fr:Int) (sh:Sh):Int:=if Jke b fr then (if Jaj sh = 0 then (if b.k = 2/\Js3 b = false then 120 else 0) else Jaj sh) else 1
theorem Ja1 (n a b:Int) (w:World) :
  Calls Tryz.prog 88 #[J Y n,J Y a,J Y b] w fun e w'=>e = .returned (.bool (inR n a b))/\w' = w:=by
 unfold inR
 by_cases h1:a <= n
 ·go_enter func88,ntmps88
  go_wp2
  go_ret
  exact ⟨by simp [h1],rfl⟩
 ·go_enter func88,ntmps88
  go_wp2
  go_ret
  exact ⟨by simp;omega,rfl⟩
theorem Jek (a:V3) (m:Int) (W:World) (hm:0 <= m) (hm':m <= 1152921504606846976) :
  Calls Tryz.prog 55 #[a.val,J Y m] W fun e W'=>e = .returned (.bool (inV a m))/\Hid (Below W.heap.size W W'):=by
 obtain ⟨x,y,z⟩:=a
 have H0:Hid _:=Ja1 x (-m) m
 have H1:Hid _:=Ja1 y (-m) m
 have H2:Hid _:=Ja1 z (-m) m
 have HB:Hid _:=Jb W (.cells #[J Y x,J Y y,J Y z] 27)
 have e0:IntKind.i64.wrap (-m) = -m:=by rw [IntKind.wrap_i64];omega
 unfold inV
 dsimp only
 generalize inR x (-m) m = c0 at *
 generalize inR y (-m) m = c1 at *
 generalize inR z (-m) m = c2 at *
 cases c0 with
 | false =>
  go_enter func55,ntmps55
  go_wp2_with (fail)
  refine JA (H0.out _) ?_
  rintro e w0 ⟨rfl,rfl⟩
  go_wp2_with (fail)
  go_ret
  exact ⟨by simp,HB⟩
 | true =>
  cases c1 with
  | false =>
   go_enter func55,ntmps55
   go_wp2_with (fail)
   refine JA (H0.out _) ?_
   rintro e w0 ⟨rfl,rfl⟩
   go_wp2_with (fail)
   refine JA (H1.out _) ?_
   rintro e w1 ⟨rfl,rfl⟩
   go_wp2_with (fail)
   go_ret
   exact ⟨by simp,HB⟩
  | true =>
   go_enter func55,ntmps55
   go_wp2_with (fail)
   refine JA (H0.out _) ?_
   rintro e w0 ⟨rfl,rfl⟩
   go_wp2_with (fail)
   refine JA (H1.out _) ?_
   rintro e w1 ⟨rfl,rfl⟩
   go_wp2_with (fail)
   refine JA (H2.out _) ?_
   rintro e w2 ⟨rfl,rfl⟩
   go_wp2_with (fail)
   go_ret
   exact ⟨by simp,HB⟩
theorem Jlv (q:V4) (W:World) :
  Calls Tryz.prog 87 #[q.val] W fun e W'=>e = .returned (.bool (Jpg q))/\Hid (Below W.heap.size W W'):=by
 obtain ⟨V,hV⟩:∃ V,V = ((W.alloc (.cells #[J Y q.w,J Y q.x,J Y q.y,J Y q.z] 29)).alloc (.cells #[.bool false] 47)):=⟨_,rfl⟩
 have hb0:=Jb W (.cells #[J Y q.w,J Y q.x,J Y q.y,J Y q.z] 29)
 have hb1:=Jb (W.alloc (.cells #[J Y q.w,J Y q.x,J Y q.y,J Y q.z] 29)) (.cells #[.bool false] 47)
 have Cq:CW V (W.heap.size) [J Y q.w,J Y q.x,J Y q.y,J Y q.z]:=by
  have h9:=(CW.new W [J Y q.w,J Y q.x,J Y q.y,J Y q.z] 29).step hb1
  rw [hV];exact h9
 have Cw:CW V (W.heap.size + 1) [.bool false]:=by
  have h9:=CW.new (W.alloc (.cells #[J Y q.w,J Y q.x,J Y q.y,J Y q.z] 29)) [.bool false] 47
  simp only [JE] at h9
  rw [hV];exact h9
 have hB:Below W.heap.size W V:=by rw [hV];exact (Jf hb0 hb1)
 clear hb0 hb1
 have HN:Hid _:=Ji7 (W.heap.size + 1) 0 false q.w q.x q.y q.z V (Cw 0 _ rfl).1 (Cw 0 _ rfl).2
 have HBT:Hid _:=fun w=>Ja1 ((Jae [q.w,q.x,q.y,q.z]).getD 0) 4294967288 4294967304 w
 unfold Jpg
 have HB:Hid _:=hB
 have q0:=(Cq 0 _ rfl).1
 have q1:=(Cq 1 _ rfl).1
 have q2:=(Cq 2 _ rfl).1
 have q3:=(Cq 3 _ rfl).1
 clear Cq Cw hB
 rw [hV] at q0 q1 q2 q3 HN HB
 simp only [JE] at HN
 clear hV
 go_enter func87,ntmps87
 go_wp2_with (fail)
 refine JA HN.out ?_
 rintro e W1 ⟨v,g,rfl,SS,A⟩
 obtain ⟨rfl,-⟩:=SS.out
 have hb:Below W.heap.size W W1:=A.out.below _ _ HB.out (by simp) (by simp;omega)
 clear A SS q0 q1 q2 q3 HN
 go_wp2_with (fail)
 refine JA (HBT.out _) ?_
 rintro e W2 ⟨rfl,rfl⟩
 go_wp2_with (fail)
 go_ret
 exact ⟨rfl,hb⟩
theorem Jpm (b:Bd) (W:World) :
  Calls Tryz.prog 38 #[.agg #[J Y b.m,J Y b.i.x,J Y b.i.y,J Y b.i.z]] W fun e W'=>e = .returned (.bool (Js3 b))/\Hid (Below W.heap.size W W'):=by
 have H0:Hid _:=Ja1 b.m 16777216 1099511627776
 have H1:Hid _:=Ja1 b.i.x 4096 562949953421312
 have H2:Hid _:=Ja1 b.i.y 4096 562949953421312
 have H3:Hid _:=Ja1 b.i.z 4096 562949953421312
 have HB:Hid _:=Jb W (.cells #[J Y b.m,J Y b.i.x,J Y b.i.y,J Y b.i.z] 36)
 unfold Js3
 generalize inR b.m 16777216 1099511627776 = c0 at *
 generalize inR b.i.x 4096 562949953421312 = c1 at *
 generalize inR b.i.y 4096 562949953421312 = c2 at *
 generalize inR b.i.z 4096 562949953421312 = c3 at *
 cases c0 with
 | false =>
  go_enter func38,ntmps38
  go_wp2_with (fail)
  refine JA (H0.out _) ?_
  rintro e w0 ⟨rfl,rfl⟩
  go_wp2_with (fail)
  go_ret
  exact ⟨by simp,HB⟩
 | true =>
  cases c1 with
  | false =>
   go_enter func38,ntmps38
   go_wp2_with (fail)
   refine JA (H0.out _) ?_
   rintro e w0 ⟨rfl,rfl⟩
   go_wp2_with (fail)
   refine JA (H1.out _) ?_
   rintro e w1 ⟨rfl,rfl⟩
   go_wp2_with (fail)
   go_ret
   exact ⟨by simp,HB⟩
  | true =>
   cases c2 with
   | false =>
    go_enter func38,ntmps38
    go_wp2_with (fail)
    refine JA (H0.out _) ?_
    rintro e w0 ⟨rfl,rfl⟩
    go_wp2_with (fail)
    refine JA (H1.out _) ?_
    rintro e w1 ⟨rfl,rfl⟩
    go_wp2_with (fail)
    refine JA (H2.out _) ?_
    rintro e w2 ⟨rfl,rfl⟩
    go_wp2_with (fail)
    go_ret
    exact ⟨by simp,HB⟩
   | true =>
    go_enter func38,ntmps38
    go_wp2_with (fail)
    refine JA (H0.out _) ?_
    rintro e w0 ⟨rfl,rfl⟩
    go_wp2_with (fail)
    refine JA (H1.out _) ?_
    rintro e w1 ⟨rfl,rfl⟩
    go_wp2_with (fail)
    refine JA (H2.out _) ?_
    rintro e w2 ⟨rfl,rfl⟩
    go_wp2_with (fail)
    refine JA (H3.out _) ?_
    rintro e w3 ⟨rfl,rfl⟩
    go_wp2_with (fail)
    go_ret
    exact ⟨by simp,HB⟩
theorem Jkh (b:Bd) (R:List Value) (fr:Int) (hfr0:R[8]? = some (J Y fr)) (W:World) :
  Calls Tryz.prog 36 #[.agg (b.L R).toArray] W fun e W'=>e = .returned (.bool (Jke b fr))/\Hid (Below W.heap.size W W'):=by
 have hfr:(b.L R)[26]? = some (J Y fr):=hfr0
 have H1:Hid _:=fun w=>Jek b.s 4398046511104 w (by decide) (by decide)
 have H2:Hid _:=fun w=>Jlv b.q w
 have H3:Hid _:=fun w=>Ja1 fr 0 4294967296 w
 have H4:Hid _:=fun w=>Jek b.p 18014398509481984 w (by decide) (by decide)
 have H5:Hid _:=fun w=>Jek b.l 18014398509481984 w (by decide) (by decide)
 have HX:Hid (Below _ _ _):=Jb W (.cells (b.L R).toArray 39)
 have CX:Hid (CW _ _ _):=CW.new W (b.L R) 39
 unfold Jke
 generalize inV b.s 4398046511104 = c1 at *
 generalize Jpg b.q = c2 at *
 generalize inR fr 0 4294967296 = c3 at *
 generalize inV b.p 18014398509481984 = c4 at *
 generalize inV b.l 18014398509481984 = c5 at *
 have k0:=(CX.out 0 _ rfl).1
 have k1:=(CX.out 1 _ rfl).1
 have k2:=(CX.out 2 _ rfl).1
 have k3:=(CX.out 3 _ rfl).1
 have k4:=(CX.out 4 _ rfl).1
 have k5:=(CX.out 5 _ rfl).1
 have k6:=(CX.out 6 _ rfl).1
 have k7:=(CX.out 7 _ rfl).1
 have k8:=(CX.out 8 _ rfl).1
 have k9:=(CX.out 9 _ rfl).1
 have k10:=(CX.out 10 _ rfl).1
 have k11:=(CX.out 11 _ rfl).1
 have k12:=(CX.out 12 _ rfl).1
 have k13:=(CX.out 13 _ rfl).1
 have k26:=(CX.out 26 _ hfr).1
 generalize hcs:b.L R = cs at *
 have HK:Hid _:=hcs
 clear hcs
 by_cases hk12:b.k = 1 \/ b.k = 2
 ·have e0:(decide (b.k = 1) || decide (b.k = 2)) = true:=by rcases hk12 with h | h <;> rw [h] <;> rfl
  rw [e0]
  rcases hk12 with h1 | h1
  all_goals
   rw [h1] at k0
   cases c1 with
   | false =>
    go_enter func36,ntmps36
    go_wp2_with (fail)
    refine JA (H1.out _) ?_
    rintro e V1 ⟨rfl,hb1⟩
    have HX:Hid (Below _ _ _):=Jf HX.out hb1.out
    have CX:Hid (CW _ _ _):=CX.out.step hb1.out
    clear hb1
    have k1:=(CX.out 1 _ (by rw [<- HK.out];rfl)).1
    have k2:=(CX.out 2 _ (by rw [<- HK.out];rfl)).1
    have k3:=(CX.out 3 _ (by rw [<- HK.out];rfl)).1
    have k4:=(CX.out 4 _ (by rw [<- HK.out];rfl)).1
    have k5:=(CX.out 5 _ (by rw [<- HK.out];rfl)).1
    have k6:=(CX.out 6 _ (by rw [<- HK.out];rfl)).1
    have k7:=(CX.out 7 _ (by rw [<- HK.out];rfl)).1
    have k8:=(CX.out 8 _ (by rw [<- HK.out];rfl)).1
    have k9:=(CX.out 9 _ (by rw [<- HK.out];rfl)).1
    have k10:=(CX.out 10 _ (by rw [<- HK.out];rfl)).1
    have k11:=(CX.out 11 _ (by rw [<- HK.out];rfl)).1
    have k12:=(CX.out 12 _ (by rw [<- HK.out];rfl)).1
    have k13:=(CX.out 13 _ (by rw [<- HK.out];rfl)).1
    have k26:=(CX.out 26 _ (by rw [<- HK.out];exact hfr0)).1
    go_wp2_with (fail)
    go_ret
    exact ⟨by simp,HX⟩
   | true =>
    cases c2 with
    | false =>
     go_enter func36,ntmps36
     go_wp2_with (fail)
     refine JA (H1.out _) ?_
     rintro e V1 ⟨rfl,hb1⟩
     have HX:Hid (Below _ _ _):=Jf HX.out hb1.out
     have CX:Hid (CW _ _ _):=CX.out.step hb1.out
     clear hb1
     have k1:=(CX.out 1 _ (by rw [<- HK.out];rfl)).1
     have k2:=(CX.out 2 _ (by rw [<- HK.out];rfl)).1
     have k3:=(CX.out 3 _ (by rw [<- HK.out];rfl)).1
     have k4:=(CX.out 4 _ (by rw [<- HK.out];rfl)).1
     have k5:=(CX.out 5 _ (by rw [<- HK.out];rfl)).1
     have k6:=(CX.out 6 _ (by rw [<- HK.out];rfl)).1
     have k7:=(CX.out 7 _ (by rw [<- HK.out];rfl)).1
     have k8:=(CX.out 8 _ (by rw [<- HK.out];rfl)).1
     have k9:=(CX.out 9 _ (by rw [<- HK.out];rfl)).1
     have k10:=(CX.out 10 _ (by rw [<- HK.out];rfl)).1
     have k11:=(CX.out 11 _ (by rw [<- HK.out];rfl)).1
     have k12:=(CX.out 12 _ (by rw [<- HK.out];rfl)).1
     have k13:=(CX.out 13 _ (by rw [<- HK.out];rfl)).1
     have k26:=(CX.out 26 _ (by rw [<- HK.out];exact hfr0)).1
     go_wp2_with (fail)
     refine JA (H2.out _) ?_
     rintro e V2 ⟨rfl,hb2⟩
     have HX:Hid (Below _ _ _):=Jf HX.out hb2.out
     have CX:Hid (CW _ _ _):=CX.out.step hb2.out
     clear hb2
     have k1:=(CX.out 1 _ (by rw [<- HK.out];rfl)).1
     have k2:=(CX.out 2 _ (by rw [<- HK.out];rfl)).1
     have k3:=(CX.out 3 _ (by rw [<- HK.out];rfl)).1
     have k4:=(CX.out 4 _ (by rw [<- HK.out];rfl)).1
     have k5:=(CX.out 5 _ (by rw [<- HK.out];rfl)).1
     have k6:=(CX.out 6 _ (by rw [<- HK.out];rfl)).1
     have k7:=(CX.out 7 _ (by rw [<- HK.out];rfl)).1
     have k8:=(CX.out 8 _ (by rw [<- HK.out];rfl)).1
     have k9:=(CX.out 9 _ (by rw [<- HK.out];rfl)).1
     have k10:=(CX.out 10 _ (by rw [<- HK.out];rfl)).1
     have k11:=(CX.out 11 _ (by rw [<- HK.out];rfl)).1
     have k12:=(CX.out 12 _ (by rw [<- HK.out];rfl)).1
     have k13:=(CX.out 13 _ (by rw [<- HK.out];rfl)).1
     have k26:=(CX.out 26 _ (by rw [<- HK.out];exact hfr0)).1
     go_wp2_with (fail)
     go_ret
     exact ⟨by simp,HX⟩
    | true =>
     cases c3 with
     | false =>
      go_enter func36,ntmps36
      go_wp2_with (fail)
      refine JA (H1.out _) ?_
      rintro e V1 ⟨rfl,hb1⟩
      have HX:Hid (Below _ _ _):=Jf HX.out hb1.out
      have CX:Hid (CW _ _ _):=CX.out.step hb1.out
      clear hb1
      have k1:=(CX.out 1 _ (by rw [<- HK.out];rfl)).1
      have k2:=(CX.out 2 _ (by rw [<- HK.out];rfl)).1
      have k3:=(CX.out 3 _ (by rw [<- HK.out];rfl)).1
      have k4:=(CX.out 4 _ (by rw [<- HK.out];rfl)).1
      have k5:=(CX.out 5 _ (by rw [<- HK.out];rfl)).1
      have k6:=(CX.out 6 _ (by rw [<- HK.out];rfl)).1
      have k7:=(CX.out 7 _ (by rw [<- HK.out];rfl)).1
      have k8:=(CX.out 8 _ (by rw [<- HK.out];rfl)).1
      have k9:=(CX.out 9 _ (by rw [<- HK.out];rfl)).1
      have k10:=(CX.out 10 _ (by rw [<- HK.out];rfl)).1
      have k11:=(CX.out 11 _ (by rw [<- HK.out];rfl)).1
      have k12:=(CX.out 12 _ (by rw [<- HK.out];rfl)).1
      have k13:=(CX.out 13 _ (by rw [<- HK.out];rfl)).1
      have k26:=(CX.out 26 _ (by rw [<- HK.out];exact hfr0)).1
      go_wp2_with (fail)
      refine JA (H2.out _) ?_
      rintro e V2 ⟨rfl,hb2⟩
      have HX:Hid (Below _ _ _):=Jf HX.out hb2.out
      have CX:Hid (CW _ _ _):=CX.out.step hb2.out
      clear hb2
      have k1:=(CX.out 1 _ (by rw [<- HK.out];rfl)).1
      have k2:=(CX.out 2 _ (by rw [<- HK.out];rfl)).1
      have k3:=(CX.out 3 _ (by rw [<- HK.out];rfl)).1
      have k4:=(CX.out 4 _ (by rw [<- HK.out];rfl)).1
      have k5:=(CX.out 5 _ (by rw [<- HK.out];rfl)).1
      have k6:=(CX.out 6 _ (by rw [<- HK.out];rfl)).1
      have k7:=(CX.out 7 _ (by rw [<- HK.out];rfl)).1
      have k8:=(CX.out 8 _ (by rw [<- HK.out];rfl)).1
      have k9:=(CX.out 9 _ (by rw [<- HK.out];rfl)).1
      have k10:=(CX.out 10 _ (by rw [<- HK.out];rfl)).1
      have k11:=(CX.out 11 _ (by rw [<- HK.out];rfl)).1
      have k12:=(CX.out 12 _ (by rw [<- HK.out];rfl)).1
      have k13:=(CX.out 13 _ (by rw [<- HK.out];rfl)).1
      have k26:=(CX.out 26 _ (by rw [<- HK.out];exact hfr0)).1
      go_wp2_with (fail)
      refine JA (H3.out _) ?_
      rintro e V3 ⟨rfl,rfl⟩
      go_wp2_with (fail)
      go_ret
      exact ⟨by simp,HX⟩
     | true =>
      cases c4 with
      | false =>
       go_enter func36,ntmps36
       go_wp2_with (fail)
       refine JA (H1.out _) ?_
       rintro e V1 ⟨rfl,hb1⟩
       have HX:Hid (Below _ _ _):=Jf HX.out hb1.out
       have CX:Hid (CW _ _ _):=CX.out.step hb1.out
       clear hb1
       have k1:=(CX.out 1 _ (by rw [<- HK.out];rfl)).1
       have k2:=(CX.out 2 _ (by rw [<- HK.out];rfl)).1
       have k3:=(CX.out 3 _ (by rw [<- HK.out];rfl)).1
       have k4:=(CX.out 4 _ (by rw [<- HK.out];rfl)).1
       have k5:=(CX.out 5 _ (by rw [<- HK.out];rfl)).1
       have k6:=(CX.out 6 _ (by rw [<- HK.out];rfl)).1
       have k7:=(CX.out 7 _ (by rw [<- HK.out];rfl)).1
       have k8:=(CX.out 8 _ (by rw [<- HK.out];rfl)).1
       have k9:=(CX.out 9 _ (by rw [<- HK.out];rfl)).1
       have k10:=(CX.out 10 _ (by rw [<- HK.out];rfl)).1
       have k11:=(CX.out 11 _ (by rw [<- HK.out];rfl)).1
       have k12:=(CX.out 12 _ (by rw [<- HK.out];rfl)).1
       have k13:=(CX.out 13 _ (by rw [<- HK.out];rfl)).1
       have k26:=(CX.out 26 _ (by rw [<- HK.out];exact hfr0)).1
       go_wp2_with (fail)
       refine JA (H2.out _) ?_
       rintro e V2 ⟨rfl,hb2⟩
       have HX:Hid (Below _ _ _):=Jf HX.out hb2.out
       have CX:Hid (CW _ _ _):=CX.out.step hb2.out
       clear hb2
       have k1:=(CX.out 1 _ (by rw [<- HK.out];rfl)).1
       have k2:=(CX.out 2 _ (by rw [<- HK.out];rfl)).1
       have k3:=(CX.out 3 _ (by rw [<- HK.out];rfl)).1
       have k4:=(CX.out 4 _ (by rw [<- HK.out];rfl)).1
       have k5:=(CX.out 5 _ (by rw [<- HK.out];rfl)).1
       have k6:=(CX.out 6 _ (by rw [<- HK.out];rfl)).1
       have k7:=(CX.out 7 _ (by rw [<- HK.out];rfl)).1
       have k8:=(CX.out 8 _ (by rw [<- HK.out];rfl)).1
       have k9:=(CX.out 9 _ (by rw [<- HK.out];rfl)).1
       have k10:=(CX.out 10 _ (by rw [<- HK.out];rfl)).1
       have k11:=(CX.out 11 _ (by rw [<- HK.out];rfl)).1
       have k12:=(CX.out 12 _ (by rw [<- HK.out];rfl)).1
       have k13:=(CX.out 13 _ (by rw [<- HK.out];rfl)).1
       have k26:=(CX.out 26 _ (by rw [<- HK.out];exact hfr0)).1
       go_wp2_with (fail)
       refine JA (H3.out _) ?_
       rintro e V3 ⟨rfl,rfl⟩
       go_wp2_with (fail)
       refine JA (H4.out _) ?_
       rintro e V4 ⟨rfl,hb4⟩
       have HX:Hid (Below _ _ _):=Jf HX.out hb4.out
       have CX:Hid (CW _ _ _):=CX.out.step hb4.out
       clear hb4
       have k1:=(CX.out 1 _ (by rw [<- HK.out];rfl)).1
       have k2:=(CX.out 2 _ (by rw [<- HK.out];rfl)).1
       have k3:=(CX.out 3 _ (by rw [<- HK.out];rfl)).1
       have k4:=(CX.out 4 _ (by rw [<- HK.out];rfl)).1
       have k5:=(CX.out 5 _ (by rw [<- HK.out];rfl)).1
       have k6:=(CX.out 6 _ (by rw [<- HK.out];rfl)).1
       have k7:=(CX.out 7 _ (by rw [<- HK.out];rfl)).1
       have k8:=(CX.out 8 _ (by rw [<- HK.out];rfl)).1
       have k9:=(CX.out 9 _ (by rw [<- HK.out];rfl)).1
       have k10:=(CX.out 10 _ (by rw [<- HK.out];rfl)).1
       have k11:=(CX.out 11 _ (by rw [<- HK.out];rfl)).1
       have k12:=(CX.out 12 _ (by rw [<- HK.out];rfl)).1
       have k13:=(CX.out 13 _ (by rw [<- HK.out];rfl)).1
       have k26:=(CX.out 26 _ (by rw [<- HK.out];exact hfr0)).1
       go_wp2_with (fail)
       go_ret
       exact ⟨by simp,HX⟩
      | true =>
       go_enter func36,ntmps36
       go_wp2_with (fail)
       refine JA (H1.out _) ?_
       rintro e V1 ⟨rfl,hb1⟩
       have HX:Hid (Below _ _ _):=Jf HX.out hb1.out
       have CX:Hid (CW _ _ _):=CX.out.step hb1.out
       clear hb1
       have k1:=(CX.out 1 _ (by rw [<- HK.out];rfl)).1
       have k2:=(CX.out 2 _ (by rw [<- HK.out];rfl)).1
       have k3:=(CX.out 3 _ (by rw [<- HK.out];rfl)).1
       have k4:=(CX.out 4 _ (by rw [<- HK.out];rfl)).1
       have k5:=(CX.out 5 _ (by rw [<- HK.out];rfl)).1
       have k6:=(CX.out 6 _ (by rw [<- HK.out];rfl)).1
       have k7:=(CX.out 7 _ (by rw [<- HK.out];rfl)).1
       have k8:=(CX.out 8 _ (by rw [<- HK.out];rfl)).1
       have k9:=(CX.out 9 _ (by rw [<- HK.out];rfl)).1
       have k10:=(CX.out 10 _ (by rw [<- HK.out];rfl)).1
       have k11:=(CX.out 11 _ (by rw [<- HK.out];rfl)).1
       have k12:=(CX.out 12 _ (by rw [<- HK.out];rfl)).1
       have k13:=(CX.out 13 _ (by rw [<- HK.out];rfl)).1
       have k26:=(CX.out 26 _ (by rw [<- HK.out];exact hfr0)).1
       go_wp2_with (fail)
       refine JA (H2.out _) ?_
       rintro e V2 ⟨rfl,hb2⟩
       have HX:Hid (Below _ _ _):=Jf HX.out hb2.out
       have CX:Hid (CW _ _ _):=CX.out.step hb2.out
       clear hb2
       have k1:=(CX.out 1 _ (by rw [<- HK.out];rfl)).1
       have k2:=(CX.out 2 _ (by rw [<- HK.out];rfl)).1
       have k3:=(CX.out 3 _ (by rw [<- HK.out];rfl)).1
       have k4:=(CX.out 4 _ (by rw [<- HK.out];rfl)).1
       have k5:=(CX.out 5 _ (by rw [<- HK.out];rfl)).1
       have k6:=(CX.out 6 _ (by rw [<- HK.out];rfl)).1
       have k7:=(CX.out 7 _ (by rw [<- HK.out];rfl)).1
       have k8:=(CX.out 8 _ (by rw [<- HK.out];rfl)).1
       have k9:=(CX.out 9 _ (by rw [<- HK.out];rfl)).1
       have k10:=(CX.out 10 _ (by rw [<- HK.out];rfl)).1
       have k11:=(CX.out 11 _ (by rw [<- HK.out];rfl)).1
       have k12:=(CX.out 12 _ (by rw [<- HK.out];rfl)).1
       have k13:=(CX.out 13 _ (by rw [<- HK.out];rfl)).1
       have k26:=(CX.out 26 _ (by rw [<- HK.out];exact hfr0)).1
       go_wp2_with (fail)
       refine JA (H3.out _) ?_
       rintro e V3 ⟨rfl,rfl⟩
       go_wp2_with (fail)
       refine JA (H4.out _) ?_
       rintro e V4 ⟨rfl,hb4⟩
       have HX:Hid (Below _ _ _):=Jf HX.out hb4.out
       have CX:Hid (CW _ _ _):=CX.out.step hb4.out
       clear hb4
       have k1:=(CX.out 1 _ (by rw [<- HK.out];rfl)).1
       have k2:=(CX.out 2 _ (by rw [<- HK.out];rfl)).1
       have k3:=(CX.out 3 _ (by rw [<- HK.out];rfl)).1
       have k4:=(CX.out 4 _ (by rw [<- HK.out];rfl)).1
       have k5:=(CX.out 5 _ (by rw [<- HK.out];rfl)).1
       have k6:=(CX.out 6 _ (by rw [<- HK.out];rfl)).1
       have k7:=(CX.out 7 _ (by rw [<- HK.out];rfl)).1
       have k8:=(CX.out 8 _ (by rw [<- HK.out];rfl)).1
       have k9:=(CX.out 9 _ (by rw [<- HK.out];rfl)).1
       have k10:=(CX.out 10 _ (by rw [<- HK.out];rfl)).1
       have k11:=(CX.out 11 _ (by rw [<- HK.out];rfl)).1
       have k12:=(CX.out 12 _ (by rw [<- HK.out];rfl)).1
       have k13:=(CX.out 13 _ (by rw [<- HK.out];rfl)).1
       have k26:=(CX.out 26 _ (by rw [<- HK.out];exact hfr0)).1
       go_wp2_with (fail)
       refine JA (H5.out _) ?_
       rintro e V5 ⟨rfl,hb5⟩
       have HX:Hid (Below _ _ _):=Jf HX.out hb5.out
       have CX:Hid (CW _ _ _):=CX.out.step hb5.out
       clear hb5
       have k1:=(CX.out 1 _ (by rw [<- HK.out];rfl)).1
       have k2:=(CX.out 2 _ (by rw [<- HK.out];rfl)).1
       have k3:=(CX.out 3 _ (by rw [<- HK.out];rfl)).1
       have k4:=(CX.out 4 _ (by rw [<- HK.out];rfl)).1
       have k5:=(CX.out 5 _ (by rw [<- HK.out];rfl)).1
       have k6:=(CX.out 6 _ (by rw [<- HK.out];rfl)).1
       have k7:=(CX.out 7 _ (by rw [<- HK.out];rfl)).1
       have k8:=(CX.out 8 _ (by rw [<- HK.out];rfl)).1
       have k9:=(CX.out 9 _ (by rw [<- HK.out];rfl)).1
       have k10:=(CX.out 10 _ (by rw [<- HK.out];rfl)).1
       have k11:=(CX.out 11 _ (by rw [<- HK.out];rfl)).1
       have k12:=(CX.out 12 _ (by rw [<- HK.out];rfl)).1
       have k13:=(CX.out 13 _ (by rw [<- HK.out];rfl)).1
       have k26:=(CX.out 26 _ (by rw [<- HK.out];exact hfr0)).1
       go_wp2_with (fail)
       go_ret
       exact ⟨by simp,HX⟩
 ·have h1:¬ b.k = 1:=fun h=>hk12 (Or.inl h)
  have h2:¬ b.k = 2:=fun h=>hk12 (Or.inr h)
  have e0:(decide (b.k = 1) || decide (b.k = 2)) = false:=by rw [decide_eq_false h1,decide_eq_false h2];rfl
  have e1:(b.k == 1) = false:=by simpa using h1
  have e2:(b.k == 2) = false:=by simpa using h2
  rw [e0]
  go_enter func36,ntmps36
  go_wp2_with (fail)
  go_ret
  exact ⟨by simp,HX⟩
end
end Go.Proofs.YteebbpioffdncaaGreat
