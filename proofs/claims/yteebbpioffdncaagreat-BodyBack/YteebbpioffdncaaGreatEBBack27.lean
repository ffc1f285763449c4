/- Layer 12's products and sums of great numbers. -/
import Derived.Test.YteebbpioffdncaaGreatEBBack9
import Derived.Test.YteebbpioffdncaaGreatEBBack0
import Derived.Deep.CutRange
import Derived.Test.YteebbpioffdncaaGreatEBBack26
import Derived.Test.YteebbpioffdncaaGreatEBBack25
set_option maxHeartbeats 4000000
set_option maxRecDepth 100000
set_option linter.unusedVariables false
namespace Go.Proofs.YteebbpioffdncaaGreat
open Go.Calls renaming mono -> JA
open Go.Region renaming binds -> JC
open Tryz
open Go.Value renaming int -> J
open Go.IntKind renaming i64 -> I
section
open Go.RowKit Ref
theorem RLies.neg_ {w:World} {b:Nat} {s:Bool} {d:Nat->Int} (h:RLies w b s d) (t:Bool):RLies (w.setCell ⟨b,0,none⟩ (.bool t)) b t d:=by
 refine ⟨?_,fun k hk=>?_,fun k hk=>?_⟩
 ·have:=h.neg;simp [go_sem,this]
 ·rw [<- h.dig k hk];simp [go_sem]
 ·rw [<- h.free k hk];simp [go_sem]
theorem Jnw {a b:Int} (ha:-9223372036854775808 <= a/\a <= 9223372036854775808) (hb:-9223372036854775808 <= b/\b <= 9223372036854775808):-85070591730234615865843651857942052864 <= a * b/\a * b <= 85070591730234615865843651857942052864:=by
 have h1:=Int.mul_nonneg (a:=9223372036854775808 - a) (b:=9223372036854775808 - b) (by omega) (by omega)
 have h2:=Int.mul_nonneg (a:=9223372036854775808 - a) (b:=9223372036854775808 + b) (by omega) (by omega)
 have h3:=Int.mul_nonneg (a:=9223372036854775808 + a) (b:=9223372036854775808 - b) (by omega) (by omega)
 have h4:=Int.mul_nonneg (a:=9223372036854775808 + a) (b:=9223372036854775808 + b) (by omega) (by omega)
 simp only [Int.sub_mul,Int.mul_sub,Int.add_mul,Int.mul_add] at h1 h2 h3 h4
 omega
theorem Jlp (p q r s:Int) (w:World) (hp:-9223372036854775808 <= p/\p <= 9223372036854775807) (hq:-9223372036854775808 <= q/\q <= 9223372036854775807) (hr:-9223372036854775808 <= r/\r <= 9223372036854775807) (hs:-9223372036854775808 <= s/\s <= 9223372036854775807) :
  Calls Tryz.prog 19 #[J I p,J I q,J I r,J I s] w fun e w'=>∃ u d,e = .returned (wv u d)/\Hid (Digs d/\sv u d = p * q - r * s)/\Hid (Below w.heap.size w w'):=by
 have HPQ:Hid _:=Jnw (a:=p) (b:=q) (by omega) (by omega)
 have HRS:Hid _:=Jnw (a:=r) (b:=s) (by omega) (by omega)
 have HOp:Hid _:=fun w=>Jb0 p w (by omega) (by omega)
 have HOq:Hid _:=fun w=>Jb0 q w (by omega) (by omega)
 have HOr:Hid _:=fun w=>Jb0 r w (by omega) (by omega)
 have HOs:Hid _:=fun w=>Jb0 s w (by omega) (by omega)
 clear hp hq hr hs
 obtain ⟨V0,hV0⟩:∃ V,V = w.alloc (.cells #[.bool false,J I 0,J I 0,J I 0,J I 0,J I 0,J I 0,J I 0,J I 0] 58):=⟨_,rfl⟩
 obtain ⟨rb,hrb⟩:∃ b,b = w.heap.size:=⟨_,rfl⟩
 have HR:Hid (RLies V0 rb false (fun _=>0)):=by show RLies _ _ _ _;rw [hV0,hrb];exact J4 w false (fun _=>0) _
 have HB:Hid (Below w.heap.size w V0):=by show Below _ _ _;rw [hV0];exact Jb _ _
 go_enter func19,ntmps19
 go_upto_region 1 with fail
 rw [<- hV0,<- hrb]
 have hle:w.heap.size <= rb:=by omega
 clear hV0 hrb
 go_wp2_with (fail)
 refine (HOp.out _).mono ?_
 rintro e x1 ⟨s1,d1,rfl,S1,B1⟩
 go_wp2_with (fail)
 refine (HOq.out _).mono ?_
 rintro e x2 ⟨s2,d2,rfl,S2,B2⟩
 go_wp2_with (fail)
 refine (Jb6 s1 s2 d1 d2 _ S1.out.1 S2.out.1 (by have h1:=S1.out.2;have h2:=S2.out.2;have h3:=HPQ.out;rw [h1,h2];omega)).mono ?_
 rintro e x3 ⟨t1,e1,rfl,S3,B3⟩
 have HB:Hid (Below w.heap.size w x3):=Jf (Jf (Jf HB.out B1.out) B2.out) B3.out
 have hB3:Below V0.heap.size V0 x3:=Jf (Jf B1.out B2.out) B3.out
 have HR:Hid (RLies x3 rb false (fun _=>0)):=HR.out.below hB3 HR.out.lt
 have HS1:Hid (Digs e1/\sv t1 e1 = p * q):=⟨S3.out.1,by have h1:=S1.out.2;have h2:=S2.out.2;have h3:=S3.out.2;rw [h1,h2] at h3;exact h3⟩
 clear B1 B2 B3 S1 S2 S3 HOp HOq hB3
 obtain ⟨V1,hV⟩:∃ V,V = x3.alloc (.cells #[.bool t1,J I (e1 0),J I (e1 1),J I (e1 2),J I (e1 3),J I (e1 4),J I (e1 5),J I (e1 6),J I (e1 7)] 58):=⟨_,rfl⟩
 obtain ⟨ab,hab1⟩:∃ b,b = x3.heap.size:=⟨_,rfl⟩
 have hb9:Below x3.heap.size x3 V1:=by rw [hV];exact Jb _ _
 have HA:Hid (RLies V1 ab t1 e1):=by show RLies _ _ _ _;rw [hV,hab1];exact J4 x3 t1 e1 _
 have hlt1:rb < ab:=by have:=HR.out.lt;omega
 have HR:Hid (RLies V1 rb false (fun _=>0)):=HR.out.below hb9 HR.out.lt
 have HB:Hid (Below w.heap.size w V1):=Jf HB.out hb9
 go_upto_region 2 with fail
 rw [<- hV,<- hab1]
 clear hV hab1 hb9
 go_wp2_with (fail)
 refine (HOr.out _).mono ?_
 rintro e x1 ⟨s1,d1,rfl,S1,B1⟩
 go_wp2_with (fail)
 refine (HOs.out _).mono ?_
 rintro e x2 ⟨s2,d2,rfl,S2,B2⟩
 go_wp2_with (fail)
 refine (Jb6 s1 s2 d1 d2 _ S1.out.1 S2.out.1 (by have h1:=S1.out.2;have h2:=S2.out.2;have h3:=HRS.out;rw [h1,h2];omega)).mono ?_
 rintro e x3 ⟨t2,e2,rfl,S3,B3⟩
 have HB:Hid (Below w.heap.size w x3):=Jf (Jf (Jf HB.out B1.out) B2.out) B3.out
 have hB3:Below V1.heap.size V1 x3:=Jf (Jf B1.out B2.out) B3.out
 have HR:Hid (RLies x3 rb false (fun _=>0)):=HR.out.below hB3 HR.out.lt
 have HA:Hid (RLies x3 ab t1 e1):=HA.out.below hB3 HA.out.lt
 have HS2:Hid (Digs e2/\sv t2 e2 = r * s):=⟨S3.out.1,by have h1:=S1.out.2;have h2:=S2.out.2;have h3:=S3.out.2;rw [h1,h2] at h3;exact h3⟩
 clear B1 B2 B3 S1 S2 S3 HOr HOs hB3
 obtain ⟨V2,hV⟩:∃ V,V = x3.alloc (.cells #[.bool t2,J I (e2 0),J I (e2 1),J I (e2 2),J I (e2 3),J I (e2 4),J I (e2 5),J I (e2 6),J I (e2 7)] 58):=⟨_,rfl⟩
 obtain ⟨bb,hab2⟩:∃ b,b = x3.heap.size:=⟨_,rfl⟩
 have hb9:Below x3.heap.size x3 V2:=by rw [hV];exact Jb _ _
 have HC:Hid (RLies V2 bb t2 e2):=by show RLies _ _ _ _;rw [hV,hab2];exact J4 x3 t2 e2 _
 have hlt2:rb < bb:=by have:=HR.out.lt;omega
 have hlt3:ab < bb:=by have:=HA.out.lt;omega
 have HA:Hid (RLies V2 ab t1 e1):=HA.out.below hb9 HA.out.lt
 have HR:Hid (RLies V2 rb false (fun _=>0)):=HR.out.below hb9 HR.out.lt
 have HB:Hid (Below w.heap.size w V2):=Jf HB.out hb9
 go_upto_region 3 with fail
 rw [<- hV,<- hab2]
 clear hV hab2 hb9
 obtain ⟨c0,c1,c2,c3,c4,c5,c6,c7,c8⟩:=HC.out.cells
 obtain ⟨f0,f1,f2,f3,f4,f5,f6,f7,f8⟩:=HC.out.frees
 obtain ⟨V3,hV⟩:∃ V,V = V2.setCell ⟨bb,0,none⟩ (.bool (!t2)):=⟨_,rfl⟩
 have HC:Hid (RLies V3 bb (!t2) e2):=by show RLies _ _ _ _;rw [hV];exact HC.out.neg_ _
 have HA:Hid (RLies V3 ab t1 e1):=by show RLies _ _ _ _;rw [hV];exact HA.out.other (a:=⟨bb,0,none⟩) (by show ab ≠ bb;omega) _
 have HR:Hid (RLies V3 rb false (fun _=>0)):=by show RLies _ _ _ _;rw [hV];exact HR.out.other (a:=⟨bb,0,none⟩) (by show rb ≠ bb;omega) _
 have HB:Hid (Below w.heap.size w V3):=by show Below _ _ _;rw [hV];exact HB.out.setCell (by show _ <= bb;omega) _
 go_upto_region 4 with fail
 rw [<- hV]
 clear hV c0 c1 c2 c3 c4 c5 c6 c7 c8 f0 f1 f2 f3 f4 f5 f6 f7 f8
 obtain ⟨c0,c1,c2,c3,c4,c5,c6,c7,c8⟩:=HC.out.cells
 obtain ⟨a0,a1,a2,a3,a4,a5,a6,a7,a8⟩:=HA.out.cells
 have HPL:Hid _:=fun w=>Jdl t1 (!t2) e1 e2 w HS1.out.1 HS2.out.1 (by have h1:=HS1.out.2;have h2:=HS2.out.2;have h3:=HPQ.out;have h4:=HRS.out;rw [Jg5,h1,h2];omega)
 go_wp2_with (fail)
 refine (HPL.out _).mono ?_
 rintro e x4 ⟨u,d,rfl,S4,B4⟩
 have HR:Hid (RLies x4 rb false (fun _=>0)):=HR.out.below B4.out HR.out.lt
 have HB:Hid (Below w.heap.size w x4):=Jf HB.out B4.out
 have HE:Hid (Digs d/\sv u d = p * q - r * s):=⟨S4.out.1,by have h1:=HS1.out.2;have h2:=HS2.out.2;have h4:=S4.out.2;rw [Jg5,h1,h2] at h4;omega⟩
 clear c0 c1 c2 c3 c4 c5 c6 c7 c8 a0 a1 a2 a3 a4 a5 a6 a7 a8 HPL S4 B4 HS1 HS2 HC HA
 obtain ⟨r0,r1,r2,r3,r4,r5,r6,r7,r8⟩:=HR.out.cells
 obtain ⟨f0,f1,f2,f3,f4,f5,f6,f7,f8⟩:=HR.out.frees
 go_wp2_with (fail)
 refine bodyPost_ret (by simp [results,results19,go_sem,r0,r1,r2,r3,r4,r5,r6,r7,r8];try rfl) rfl ?_
 exact ⟨u,d,rfl,HE.out,Jay HB.out (by omega)⟩
def WT (K:List (Nat × Int)) (γ:Nat->Value) (L:Nat->Bool):Prop:=∀ x ∈ K,L x.1 = true->∃ u d,γ x.1 = wv u d/\Digs d/\sv u d = x.2
section
variable {K:List (Nat × Int)} {γ:Nat->Value} {L:Nat->Bool} {i:Nat}
theorem WT.start:WT K γ (fun _=>false):=fun x _ h=>by cases h
theorem WT.other (h:WT K γ L) (v:Value) (hi:(K.all fun x=>decide (x.1 ≠ i)) = true):WT K (RV.upd γ i v) (more L i):=fun x hx hl=>by
 have hne:x.1 ≠ i:=by have:=List.all_eq_true.1 hi x hx;simpa using this
 rw [RV.mn hne] at hl
 rw [RV.upd_ne _ _ hne]
 exact h x hx hl
theorem WT.call (h:WT K γ L) {n:Int} {u:Bool} {d:Nat->Int} (hd:Digs d) (hs:sv u d = n) (hi:(K.all fun x=>decide (x.1 ≠ i) || decide (x.2 = n)) = true):WT K (RV.upd γ i (wv u d)) (more L i):=fun x hx hl=>by
 by_cases hne:x.1 = i
 ·have h2:x.2 = n:=by have:=List.all_eq_true.1 hi x hx;simpa [hne] using this
  rw [hne,RV.upd_self,h2]
  exact ⟨u,d,rfl,hd,hs⟩
 ·rw [RV.mn hne] at hl
  rw [RV.upd_ne _ _ hne]
  exact h x hx hl
end
def Jlr (w:World) (b:Nat) (u:Bool) (d:Nat->Int):World:=(((((((((w.setCell ⟨b,0,none⟩ (.bool u)).setCell ⟨b,1,none⟩ (J I (d 0))).setCell ⟨b,2,none⟩ (J I (d 1))).setCell ⟨b,3,none⟩ (J I (d 2))).setCell ⟨b,4,none⟩ (J I (d 3))).setCell ⟨b,5,none⟩ (J I (d 4))).setCell ⟨b,6,none⟩ (J I (d 5))).setCell ⟨b,7,none⟩ (J I (d 6))).setCell ⟨b,8,none⟩ (J I (d 7)))
theorem Jpl {w:World} {b:Nat} {s u:Bool} {a d:Nat->Int} (h:RLies w b s a):RLies (Jlr w b u d) b u d:=by
 obtain ⟨c0,c1,c2,c3,c4,c5,c6,c7,c8⟩:=h.cells
 obtain ⟨f0,f1,f2,f3,f4,f5,f6,f7,f8⟩:=h.frees
 unfold Jlr
 refine ⟨by simp [go_sem,c0],fun k hk=>?_,fun k hk=>?_⟩
 ·match k,hk with
  | 0,_=>simp [go_sem,c1]
  | 1,_=>simp [go_sem,c2]
  | 2,_=>simp [go_sem,c3]
  | 3,_=>simp [go_sem,c4]
  | 4,_=>simp [go_sem,c5]
  | 5,_=>simp [go_sem,c6]
  | 6,_=>simp [go_sem,c7]
  | 7,_=>simp [go_sem,c8]
 ·rw [<- h.free k hk];simp [go_sem]
structure AG (V:World) (rb:Nat) (N:Int) (K:List (Nat × Int)) (γ:Nat->Value) (L:Nat->Bool) (w:World):Prop where
 early:L 6 = false->Below V.heap.size V w
 told:WT K γ L
 late:L 6 = true->∃ w' u d,(Digs d/\sv u d = N)/\Below V.heap.size V w'/\w = Jlr w' rb u d
theorem AG.other {V:World} {rb:Nat} {N:Int} {K:List (Nat × Int)} {γ:Nat->Value} {L:Nat->Bool} {w:World} {i:Nat} (h:AG V rb N K γ L w) (v:Value) (hi:(K.all fun x=>decide (x.1 ≠ i)) = true) (h6:6 ≠ i):AG V rb N K (RV.upd γ i v) (more L i) w:=
 ⟨fun e=>h.early (by rwa [RV.mn h6] at e),h.told.other v hi,fun e=>h.late (by rwa [RV.mn h6] at e)⟩
theorem AG.call {V:World} {rb:Nat} {N:Int} {K:List (Nat × Int)} {γ:Nat->Value} {L:Nat->Bool} {w w':World} {i:Nat} (h:AG V rb N K γ L w) {n:Int} {u:Bool} {d:Nat->Int} (hl:L 6 = false) (hb:Below w.heap.size w w') (hd:Digs d) (hs:sv u d = n) (hi:(K.all fun x=>decide (x.1 ≠ i) || decide (x.2 = n)) = true) (h6:6 ≠ i):AG V rb N K (RV.upd γ i (wv u d)) (more L i) w':=
 ⟨fun e=>Jf (h.early hl) hb,h.told.call hd hs hi,fun e=>by rw [RV.mn h6,hl] at e;cases e⟩
theorem Jkl (s:Bool) (d:Nat->Int) (l X:Int) (w:World) (hd:Digs d) (hX:sv s d = X) (hXb:-1701411834604692317316873037158841057280 <= X/\X <= 1701411834604692317316873037158841057280) (hl:-9223372036854775808 <= l/\l <= 9223372036854775807) :
  Calls Tryz.prog 18 #[wv s d,J I l] w fun e w'=>∃ u d',e = .returned (wv u d')/\Hid (Digs d'/\sv u d' = X + l * 4294967296)/\Hid (Below w.heap.size w w'):=by
 have HO1:Hid _:=fun w=>Jb0 l w (by omega) (by omega)
 have HO2:Hid _:=fun w=>Jb0 4294967296 w (by decide) (by decide)
 have HX:Hid _:=And.intro hd (And.intro hX hXb)
 have HL:Hid _:=hl
 clear hd hX hXb hl
 obtain ⟨V1,hV1⟩:∃ V,V = w.alloc (.cells #[.bool s,J I (d 0),J I (d 1),J I (d 2),J I (d 3),J I (d 4),J I (d 5),J I (d 6),J I (d 7)] 58):=⟨_,rfl⟩
 obtain ⟨V0,hV0⟩:∃ V,V = V1.alloc (.cells #[.bool false,J I 0,J I 0,J I 0,J I 0,J I 0,J I 0,J I 0,J I 0] 58):=⟨_,rfl⟩
 obtain ⟨xb,hxb⟩:∃ b,b = w.heap.size:=⟨_,rfl⟩
 obtain ⟨rb,hrb⟩:∃ b,b = w.heap.size + 1:=⟨_,rfl⟩
 have z1:V1.heap.size = w.heap.size + 1:=by rw [hV1,World.size_alloc]
 have k1:=Jb w (.cells #[.bool s,J I (d 0),J I (d 1),J I (d 2),J I (d 3),J I (d 4),J I (d 5),J I (d 6),J I (d 7)] 58)
 have k0:=Jb V1 (.cells #[.bool false,J I 0,J I 0,J I 0,J I 0,J I 0,J I 0,J I 0,J I 0] 58)
 rw [<- hV1] at k1
 rw [<- hV0] at k0
 have n1:RLies V1 xb s d:=by rw [hV1,hxb];exact J4 w s d _
 have HXL:Hid (RLies V0 xb s d):=n1.below k0 n1.lt
 have HR:Hid (RLies V0 rb false (fun _=>0)):=by show RLies _ _ _ _;rw [hV0,hrb,<- z1];exact J4 V1 false (fun _=>0) _
 have HB:Hid (Below w.heap.size w V0):=Jf k1 k0
 have hle:w.heap.size <= rb:=by omega
 clear n1 k1 k0
 go_enter func18,ntmps18
 go_upto_region 1 with fail
 rw [<- hV1,<- hV0,<- hrb,<- hxb]
 clear hV1 hV0 hrb hxb z1
 obtain ⟨x0,x1,x2,x3,x4,x5,x6,x7,x8⟩:=HXL.out.cells
 have hxl:=HXL.out.lt
 refine RV.rs [.some (wv s d),.some (J I l),.none,.none,.none,.none,.none] [6,7,8,9,10,11,0] [(2,.pointer (some ⟨xb,0,none⟩)),(1,J I l),(4,.pointer (some ⟨rb,0,none⟩))] (fun γ L w=>AG V0 rb (X + l * 4294967296) [(2,l),(3,4294967296),(4,l * 4294967296),(5,X + l * 4294967296)] γ L w) ⟨rfl,rfl,rfl,trivial⟩ ⟨fun _=>(Below.refl _ _).drew,WT.start,fun e=>by cases e⟩ ?_ ?_
 ·intro D WA Z hD hWA hZ T
  simp only [RV.Outs,RV.Slots,Nat.reduceAdd] at T
  (refine RV.cc _ (RV.pu T (fun γ v L w hl h=>h.other v rfl (by decide)) (fun γ L a w hH hl h9 k9=>⟨_,?_,rfl⟩)) ?_;· have hG:=hH.glob.early (RV.ny hH (RV.wt (j:=6) (i:=5) hWA (by kernel_rfl)) (RV.ny hH (RV.wt (j:=5) (i:=0) hWA (by kernel_rfl)) hl));have y0:=Ja hG x0;have y1:=Ja hG x1;have y2:=Ja hG x2;have y3:=Ja hG x3;have y4:=Ja hG x4;have y5:=Ja hG x5;have y6:=Ja hG x6;have y7:=Ja hG x7;have y8:=Ja hG x8;simp [execOp,go_sem,h9,y0,y1,y2,y3,y4,y5,y6,y7,y8])
  (refine RV.cc _ (RV.pu T (fun γ v L w hl h=>h.other v rfl (by decide)) (fun γ L a w hH hl h9 k9=>⟨_,?_,rfl⟩)) ?_;· simp [execOp,go_sem,h9])
  refine RV.cc _ (RV.dc (fun γ L a w hH hl hA=>by have h9:=T γ L a w hH;have k9:=hA;simp [JC] at k9;exact ⟨_,_,by simp [go_sem,h9,k9],JA (HO1.out w) (by rintro e w2 ⟨u,d2,rfl,hS,hb⟩;exact ⟨_,rfl,trivial,fun j v _ h=>h.keep _,hH.glob.call (RV.ny hH (RV.wt (j:=6) (i:=5) hWA (by kernel_rfl)) (RV.ny hH (RV.wt (j:=5) (i:=4) hWA (by kernel_rfl)) (RV.ny hH (RV.wt (j:=4) (i:=2) hWA (by kernel_rfl)) hl))) hb.out hS.out.1 hS.out.2 (by simp) (by decide)⟩)⟩)) ?_
  refine RV.cc _ (RV.dc (fun γ L a w hH hl hA=>by exact ⟨_,_,by simp [go_sem],JA (HO2.out w) (by rintro e w2 ⟨u,d2,rfl,hS,hb⟩;exact ⟨_,rfl,trivial,fun j v _ h=>h.keep _,hH.glob.call (RV.ny hH (RV.wt (j:=6) (i:=5) hWA (by kernel_rfl)) (RV.ny hH (RV.wt (j:=5) (i:=4) hWA (by kernel_rfl)) (RV.ny hH (RV.wt (j:=4) (i:=3) hWA (by kernel_rfl)) hl))) hb.out hS.out.1 hS.out.2 (by simp) (by decide)⟩)⟩)) ?_
  refine RV.cc _ (RV.dc (fun γ L a w hH hl hA=>by have l2:L 2 = true:=hA ⟨2,.data⟩ (by simp) rfl;have l3:L 3 = true:=hA ⟨3,.data⟩ (by simp) rfl;have s2:=hH.slot 2 7 (by rw [<- hD];rfl) l2;have s3:=hH.slot 3 8 (by rw [<- hD];rfl) l3;obtain ⟨u2,e2,g2,D2,S2⟩:=hH.glob.told (2,l) (by simp) l2;obtain ⟨u3,e3,g3,D3,S3⟩:=hH.glob.told (3,4294967296) (by simp) l3;rw [g2] at s2;rw [g3] at s3;exact ⟨_,_,by simp [go_sem,s2,s3],JA (Jb6 u2 u3 e2 e3 w D2 D3 (by have:=HL.out;dsimp only at S2 S3;rw [S2,S3];omega)) (by rintro e w2 ⟨u,d2,rfl,hS,hb⟩;exact ⟨_,rfl,trivial,fun j v _ h=>h.keep _,hH.glob.call (n:=l * 4294967296) (RV.ny hH (RV.wt (j:=6) (i:=5) hWA (by kernel_rfl)) (RV.ny hH (RV.wt (j:=5) (i:=4) hWA (by kernel_rfl)) hl)) hb.out hS.out.1 (by have h:=hS.out.2;dsimp only at S2 S3;rw [S2,S3] at h;exact h) (by simp) (by decide)⟩)⟩)) ?_
  refine RV.cc _ (RV.dc (fun γ L a w hH hl hA=>by have h9:=T γ L a w hH;have k9:=hA;simp [JC] at k9;have l4:L 4 = true:=hA ⟨4,.data⟩ (by simp) rfl;have s4:=hH.slot 4 9 (by rw [<- hD];rfl) l4;obtain ⟨u4,e4,g4,D4,S4⟩:=hH.glob.told (4,l * 4294967296) (by simp) l4;rw [g4] at s4;exact ⟨_,_,by simp [go_sem,h9,k9,s4],JA (Jdl s u4 d e4 w HX.out.1 D4 (by have:=HL.out;have h1:=HX.out;dsimp only at S4;rw [S4,h1.2.1];omega)) (by rintro e w2 ⟨u,d2,rfl,hS,hb⟩;exact ⟨_,rfl,trivial,fun j v _ h=>h.keep _,hH.glob.call (n:=X + l * 4294967296) (RV.ny hH (RV.wt (j:=6) (i:=5) hWA (by kernel_rfl)) hl) hb.out hS.out.1 (by have h:=hS.out.2;dsimp only at S4;rw [S4,HX.out.2.1] at h;exact h) (by simp) (by decide)⟩)⟩)) ?_
  refine RV.cc _ (RV.does_store (fun γ L a w hH hl hA=>by have h9:=T γ L a w hH;have l5:L 5 = true:=hA ⟨5,.data⟩ (by simp) rfl;have s5:=hH.slot 5 10 (by rw [<- hD];rfl) l5;obtain ⟨u5,e5,g5,D5,S5⟩:=hH.glob.told (5,X + l * 4294967296) (by simp) l5;rw [g5] at s5;have hG:=hH.glob.early hl;have hr:=HR.out.below hG HR.out.lt;obtain ⟨c0,c1,c2,c3,c4,c5,c6,c7,c8⟩:=hr.cells;obtain ⟨f0,f1,f2,f3,f4,f5,f6,f7,f8⟩:=hr.frees;exact ⟨Jlr w rb u5 e5,by unfold Jlr;simp [execOp,go_sem,h9,s5,c0,c1,c2,c3,c4,c5,c6,c7,c8,f0,f1,f2,f3,f4,f5,f6,f7,f8],trivial,fun j v _ h=>h.keep _,⟨fun e=>(by rw [RV.more_self] at e;cases e),hH.glob.told.other _ rfl,fun _=>⟨w,u5,e5,⟨D5,S5⟩,hG,rfl⟩⟩⟩)) ?_
  exact RV.AllDo.nil
 ·intro γ w9 L9 hL9 hI9 hG9
  obtain ⟨w8,u,d',hE,hb8,rfl⟩:=hG9.late (hL9 6 (by decide))
  have HE:Hid (Digs d'/\sv u d' = X + l * 4294967296):=hE
  have hr:=Jpl (u:=u) (d:=d') (HR.out.below hb8 HR.out.lt)
  have HBB:Hid (Below w.heap.size w (Jlr w8 rb u d')):=Jay (Jf HB.out hb8) hle
  obtain ⟨r0,r1,r2,r3,r4,r5,r6,r7,r8⟩:=hr.cells
  generalize Jlr w8 rb u d' = W9 at *
  clear hG9 hI9 hL9 hr hb8 hE x0 x1 x2 x3 x4 x5 x6 x7 x8
  simp only [RV.putL,Act.put,List.setIfInBounds_toArray,List.set_cons_zero,List.set_cons_succ,Nat.reduceAdd]
  go_wp2_with (fail)
  refine bodyPost_ret (by simp [results,results18,go_sem,r0,r1,r2,r3,r4,r5,r6,r7,r8];try rfl) rfl ?_
  exact ⟨u,d',rfl,HE.out,HBB.out⟩
end
section
open Go.RowKit Go.Shelf Fx
structure BK (w0:World) (pw po:Nat) (bx:List (Nat × List Value)) (os:List (Value × List Pt)) (W:World):Prop where
 c:∀ x ∈ bx,CW W x.1 x.2
 w:CW W pw [.bool false]
 o:CW W po [.bool false]
 below:Below w0.heap.size w0 W
 own:∀ x ∈ os,∃ base,W.ownsRow base 23 3 x.1 x.2.length (fl3 x.2)/\x.1.ownBlock ≠ some pw/\x.1.ownBlock ≠ some po
 ne:pw ≠ po/\w0.heap.size <= pw/\w0.heap.size <= po/\∀ x ∈ bx,x.1 ≠ pw/\x.1 ≠ po
section
variable {w0 W W':World} {pw po:Nat} {bx:List (Nat × List Value)} {os:List (Value × List Pt)}
theorem BK.step (h:BK w0 pw po bx os W) (hb:Below W.heap.size W W'):BK w0 pw po bx os W':=
 ⟨fun x hx=>(h.c x hx).step hb,h.w.step hb,h.o.step hb,Jf h.below hb,fun x hx=>by obtain ⟨b,q,r⟩:=h.own x hx;exact ⟨b,Jq q hb,r⟩,h.ne⟩
theorem BK.aw (h:BK w0 pw po bx os W) (a:After ⟨pw,0,none⟩ false W W'):BK w0 pw po bx os W':=
 ⟨fun x hx=>(h.c x hx).after a (h.ne.2.2.2 x hx).1,CW.flag a,h.o.after a (fun e=>h.ne.1 e.symm),a.leaves.below _ _ h.below h.ne.2.1 h.below.size,
  fun x hx=>by obtain ⟨b,q,r⟩:=h.own x hx;exact ⟨b,Jc2 q fun g hg=>a.kept.2.2.2 g (q.lt g hg).2 (fun e=>r.1 (by rw [hg];exact congrArg some e)),r⟩,h.ne⟩
theorem BK.ao (h:BK w0 pw po bx os W) (a:After ⟨po,0,none⟩ false W W'):BK w0 pw po bx os W':=
 ⟨fun x hx=>(h.c x hx).after a (h.ne.2.2.2 x hx).2,h.w.after a h.ne.1,CW.flag a,a.leaves.below _ _ h.below h.ne.2.2.1 h.below.size,
  fun x hx=>by obtain ⟨b,q,r⟩:=h.own x hx;exact ⟨b,Jc2 q fun g hg=>a.kept.2.2.2 g (q.lt g hg).2 (fun e=>r.2 (by rw [hg];exact congrArg some e)),r⟩,h.ne⟩
theorem BK.add (h:BK w0 pw po bx os W) {b:Nat} {cs:List Value} (hc:CW W b cs) (h1:b ≠ pw) (h2:b ≠ po):BK w0 pw po ((b,cs) :: bx) os W:=
 ⟨fun x hx=>(List.mem_cons.1 hx).elim (fun e=>by rw [e];exact hc) (h.c x),h.w,h.o,h.below,h.own,h.ne.1,h.ne.2.1,h.ne.2.2.1,fun x hx=>(List.mem_cons.1 hx).elim (fun e=>by rw [e];exact ⟨h1,h2⟩) (h.ne.2.2.2 x)⟩
structure PuG (w0 V:World) (pw po:Nat) (bx:List (Nat × List Value)) (os:List (Value × List Pt)) (pts:List Pt) (R:List Value) (D:Bd) (γ:Nat->Value) (L:Nat->Bool) (w:World):Prop where
 v:BK w0 pw po bx os V
 lt:∀ x ∈ bx,x.1 < V.heap.size
 k:BK w0 pw po bx os w
 size:V.heap.size <= w.heap.size
 told:L 9 = true->∃ u,γ 9 = .agg (D.L (R.set 5 u)).toArray/\w.ownsRow V.heap.size 23 3 u pts.length (fl3 pts)/\(L 10 = true->∀ b,γ 10 = .pointer (some ⟨b,0,none⟩)->u.ownBlock ≠ some b)
 box:L 10 = true->∃ b cs,γ 10 = .pointer (some ⟨b,0,none⟩)/\V.heap.size <= b/\CW w b cs/\cs.length = 31/\(L 11 = true->∃ u,cs = D.L (R.set 5 u)/\u.oneCell' = true)
variable {V w w':World} {pts:List Pt} {R:List Value} {D:Bd} {γ:Nat->Value} {L:Nat->Bool}
theorem PuG.start (h:BK w0 pw po bx os V) (hl:∀ x ∈ bx,x.1 < V.heap.size):PuG w0 V pw po bx os pts R D γ (fun _=>false) V.drew:=
 ⟨h,hl,h.step (Below.refl _ _).drew,Nat.le_refl _,fun e=>(by cases e),fun e=>(by cases e)⟩
theorem PuG.other (h:PuG w0 V pw po bx os pts R D γ L w) {i:Nat} (v:Value) (h1:9 ≠ i) (h2:10 ≠ i) (h3:11 ≠ i):PuG w0 V pw po bx os pts R D (RV.upd γ i v) (more L i) w:=
 ⟨h.v,h.lt,h.k,h.size,by rw [RV.mn h1,RV.mn h2,RV.upd_ne _ _ h1,RV.upd_ne _ _ h2];exact h.told,by rw [RV.mn h2,RV.mn h3,RV.upd_ne _ _ h2];exact h.box⟩
theorem PuG.sub (h:PuG w0 V pw po bx os pts R D γ L w) {i:Nat} (v:Value) (a:After ⟨po,0,none⟩ false w w') (h1:9 ≠ i) (h2:10 ≠ i) (h3:11 ≠ i) (hl:L 9 = false) (h11:L 11 = false):PuG w0 V pw po bx os pts R D (RV.upd γ i v) (more L i) w':=by
 refine ⟨h.v,h.lt,h.k.ao a,Nat.le_trans h.size a.size,fun e=>(by rw [RV.mn h1,hl] at e;cases e),fun e=>?_⟩
 rw [RV.mn h2] at e
 rw [RV.mn h3,RV.upd_ne _ _ h2]
 obtain ⟨b,cs,e1,e2,e3,e4,_⟩:=h.box e
 exact ⟨b,cs,e1,e2,e3.after a (by have:=CW.lt h.v.o;show b ≠ po;omega),e4,fun e=>(by rw [h11] at e;cases e)⟩
theorem PuG.push (h:PuG w0 V pw po bx os pts R D γ L w) {u:Value} (a:After ⟨pw,0,none⟩ false w w') (hu:w'.ownsRow w.heap.size 23 3 u pts.length (fl3 pts)) (h11:L 11 = false):PuG w0 V pw po bx os pts R D (RV.upd γ 9 (.agg (D.L (R.set 5 u)).toArray)) (more L 9) w':=by
 refine ⟨h.v,h.lt,h.k.aw a,Nat.le_trans h.size a.size,fun _=>?_,fun e=>?_⟩
 ·rw [RV.mn (by decide),RV.upd_self,RV.upd_ne _ _ (by decide)]
  refine ⟨u,rfl,Jmz h.size hu,fun hb b eb=>Jly hu ?_⟩
  obtain ⟨b',cs,e1,e2,e3,e4,_⟩:=h.box hb
  rw [eb] at e1
  cases e1
  exact e3.lt31 e4
 ·rw [RV.mn (by decide)] at e
  rw [RV.mn (by decide),RV.upd_ne _ _ (by decide)]
  obtain ⟨b,cs,e1,e2,e3,e4,_⟩:=h.box e
  exact ⟨b,cs,e1,e2,e3.after a (by have:=CW.lt h.v.w;show b ≠ pw;omega),e4,fun e=>(by rw [h11] at e;cases e)⟩
theorem PuG.made (h:PuG w0 V pw po bx os pts R D γ L w) (h11:L 11 = false) (cs:List Value) (hc:cs.length = 31) :
  PuG w0 V pw po bx os pts R D (RV.upd γ 10 (.pointer (some ⟨w.heap.size,0,none⟩))) (more L 10) (w.alloc (.cells cs.toArray 39)):=by
 have hb:=Jb w (.cells cs.toArray 39)
 refine ⟨h.v,h.lt,h.k.step hb,Nat.le_trans h.size hb.size,fun e=>?_,fun _=>⟨_,cs,by rw [RV.upd_self],h.size,CW.new _ _ _,hc,fun e=>by rw [RV.mn (by decide),h11] at e;cases e⟩⟩
 rw [RV.mn (by decide)] at e
 rw [RV.upd_ne _ _ (by decide),RV.upd_self]
 obtain ⟨u9,q1,q2,q3⟩:=h.told e
 refine ⟨u9,q1,Jq q2 hb,fun _ b eb=>?_⟩
 cases eb
 intro e9
 have:=(q2.lt _ e9).2
 omega
theorem PuG.fill (h:PuG w0 V pw po bx os pts R D γ L w) (hl:L 9 = true) (hi:L 10 = true) (hR:∀ u:Value,u.oneCell' = true->Rest (R.set 5 u)) :
  ∃ b cs u,γ 10 = .pointer (some ⟨b,0,none⟩)/\γ 9 = .agg (D.L (R.set 5 u)).toArray/\CW w b cs/\cs.length = 31/\u.oneCell' = true/\∀ v,PuG w0 V pw po bx os pts R D (RV.upd γ 11 v) (more L 11) (w.setCells b 0 (D.L (R.set 5 u))):=by
 obtain ⟨b,cs,e1,e2,e3,e4,_⟩:=h.box hi
 obtain ⟨u,q1,q2,q3⟩:=h.told hl
 have hu1:u.oneCell' = true:=Jdf q2
 have hbl:(D.L (R.set 5 u)).length = 31:=(hR u hu1).all D
 have p1:=CW.lt h.v.w
 have p2:=CW.lt h.v.o
 have hw0:=h.v.below.size
 refine ⟨b,cs,u,e1,q1,e3,e4,hu1,fun v=>⟨h.v,h.lt,⟨fun x hx=>(h.k.c x hx).apart (by have:=h.lt x hx;omega),h.k.w.apart (by omega),h.k.o.apart (by omega),h.k.below.trans (Jbl (by omega) _ _ _),fun x hx=>?_,h.k.ne⟩,by rw [Jeu];exact h.size,fun _=>?_,fun _=>?_⟩⟩
 ·obtain ⟨ba,r1,r2⟩:=h.k.own x hx
  obtain ⟨_,r3,_⟩:=h.v.own x hx
  exact ⟨ba,Jbu r1 (fun e=>by have:=(r3.lt _ e).2;omega) _ 0,r2⟩
 ·rw [RV.upd_ne _ _ (by decide),RV.upd_ne _ _ (by decide),RV.mn (by decide)]
  exact ⟨u,q1,Jbu q2 (q3 hi b e1) _ 0,q3⟩
 ·exact ⟨b,_,by rw [RV.upd_ne _ _ (by decide)];exact e1,e2,e3.sets (by rw [hbl,e4]),hbl,fun _=>⟨u,rfl,hu1⟩⟩
end
theorem Jsu {a b:V3} {A B C:Int} (ha:isV a A) (hb:isV b B) (hA:A <= 4611686018427387903) (hB:B <= 4611686018427387903) (h:A * B + A * B <= C * 4294967296) (hC:C <= 4611686018427387903) :
  Jbv a b = ⟨(a.y * b.z + a.z * -b.y) / 4294967296,(a.z * b.x + a.x * -b.z) / 4294967296,(a.x * b.y + a.y * -b.x) / 4294967296⟩:=by
 obtain ⟨a1,a2,a3⟩:=ha
 obtain ⟨b1,b2,b3_⟩:=hb
 obtain ⟨e1,c1⟩:=Jen (u:=b.z) (v:=-b.y) a2 a3 b3_ (by omega) hA hB h hC
 obtain ⟨e2,c2⟩:=Jen (u:=b.x) (v:=-b.z) a3 a1 b1 (by omega) hA hB h hC
 obtain ⟨e3,c3⟩:=Jen (u:=b.y) (v:=-b.x) a1 a2 b2 (by omega) hA hB h hC
 unfold Jbv
 rw [e1,e2,e3]
 rfl
theorem Jhz {x:Bd} {at_ j:V3} (hk:x.k = 2) (hs:isV x.s 4398046511104) (hp:isV x.p 1099511627776) (hl:isV x.l 68719476736) (ha:isV at_ 4398046511104) (hj:isV j 1099511627776) :
  Jsv at_ x.s = false/\∃ (m:V3) (c:Bd),Jig at_ x.s = m/\ifB x (Jem x m j) = c/\Jbq x.k (Jpi x m j) = false/\c.s = x.s/\c.q = x.q/\c.p = ⟨x.p.x + j.x,x.p.y + j.y,x.p.z + j.z⟩ /\
   c.l = ⟨x.l.x + ((at_.y - x.s.y) * j.z + (at_.z - x.s.z) * -j.y) / 4294967296,x.l.y + ((at_.z - x.s.z) * j.x + (at_.x - x.s.x) * -j.z) / 4294967296,x.l.z + ((at_.x - x.s.x) * j.y + (at_.y - x.s.y) * -j.x) / 4294967296⟩/\isV c.l 9007199254740992:=by
 obtain ⟨s1,s2⟩:=Jn2 (a:=at_) (b:=x.s) (Jbw ha (by decide)) (Jbw hs (by decide))
 have hm:isV (Jig at_ x.s) 8796093022208:=by rw [s2];unfold isV at *;dsimp only;omega
 obtain ⟨c1,c2⟩:=Jr9 (C:=4503599627370496) hm hj (by decide) (by decide) (by decide) (by decide)
 have c3:=Jsu (C:=4503599627370496) hm hj (by decide) (by decide) (by decide) (by decide)
 obtain ⟨a1,a2⟩:=Jn3 (a:=x.p) (b:=j) (Jbw hp (by decide)) (Jbw hj (by decide))
 obtain ⟨b1,b2⟩:=Jn3 (a:=x.l) (b:=Jbv (Jig at_ x.s) j) (Jbw hl (by decide)) (Jbw c2 (by decide))
 refine ⟨s1,_,Jem x (Jig at_ x.s) j,rfl,by unfold ifB;rw [if_pos hk],?_,rfl,rfl,a2,?_,?_⟩
 ·unfold Jbq Jpi
  rw [if_pos hk,a1,c1,b1];rfl
 ·show Jap x.l (Jbv (Jig at_ x.s) j) = _
  rw [b2,c3,s2]
 ·show isV (Jap x.l (Jbv (Jig at_ x.s) j)) _
  rw [b2]
  unfold isV at *
  dsimp only
  omega
theorem Js0 (ay az py pz qy qz jy jz:Int):∃ N,(py * jz - pz * jy) + ((ay - py) * jz + (az - pz) * -jy) / 4294967296 * 4294967296 + ((qy * -jz - qz * -jy) + ((ay - qy) * -jz + (az - qz) * - -jy) / 4294967296 * 4294967296) = N/\-8589934592 < N/\N < 8589934592:=by
 refine ⟨_,rfl,?_⟩
 have e1:(ay - py) * jz + (az - pz) * -jy = (ay * jz - az * jy) - (py * jz - pz * jy):=by grind
 have e2:(ay - qy) * -jz + (az - qz) * - -jy = -(ay * jz - az * jy) + (qy * jz - qz * jy):=by grind
 have e3:qy * -jz - qz * -jy = -(qy * jz - qz * jy):=by grind
 rw [e1,e2,e3]
 generalize ay * jz - az * jy = A
 generalize py * jz - pz * jy = P
 generalize qy * jz - qz * jy = Q
 omega
end
section
open Go.RowKit Go.Shelf Fx Ref
def wl (u:Bool) (d:Nat->Int):List Value:=[.bool u,J I (d 0),J I (d 1),J I (d 2),J I (d 3),J I (d 4),J I (d 5),J I (d 6),J I (d 7)]
def SL (N:Nat->Int) (w:World) (v:Value):Prop:=∃ (b:Nat) (U:Nat->Bool) (E:Nat->Nat->Int),v = .slice (some ⟨b,0,none⟩) 3 3/\CW w b (wl (U 0) (E 0) ++ (wl (U 1) (E 1) ++ wl (U 2) (E 2)))/\∀ k,k < 3->Digs (E k)/\sv (U k) (E k) = N k
theorem SL.step {N:Nat->Int} {w w':World} {v:Value} (h:SL N w v) (hb:Below w.heap.size w w'):SL N w' v:=by
 obtain ⟨b,U,E,e,c,r⟩:=h
 exact ⟨b,U,E,e,c.step hb,r⟩
structure LG (w0:World) (pw po:Nat) (bx:List (Nat × List Value)) (os:List (Value × List Pt)) (K:List (Nat × Int)) (N:Nat->Int) (γ:Nat->Value) (L:Nat->Bool) (w:World):Prop where
 k:BK w0 pw po bx os w
 told:WT K γ L
 sl:L 105 = true->SL N w (γ 105)
 as_:L 106 = true->SL N w (γ 106)
section
variable {w0 w w':World} {pw po:Nat} {bx:List (Nat × List Value)} {os:List (Value × List Pt)} {K:List (Nat × Int)} {N:Nat->Int} {γ:Nat->Value} {L:Nat->Bool} {i:Nat}
theorem LG.other (h:LG w0 pw po bx os K N γ L w) (v:Value) (hi:(K.all fun x=>decide (x.1 ≠ i)) = true) (h1:105 ≠ i) (h2:106 ≠ i):LG w0 pw po bx os K N (RV.upd γ i v) (more L i) w:=
 ⟨h.k,h.told.other v hi,by rw [RV.mn h1,RV.upd_ne _ _ h1];exact h.sl,by rw [RV.mn h2,RV.upd_ne _ _ h2];exact h.as_⟩
theorem LG.call (h:LG w0 pw po bx os K N γ L w) {n:Int} {u:Bool} {d:Nat->Int} (hb:Below w.heap.size w w') (hd:Digs d) (hs:sv u d = n) (hi:(K.all fun x=>decide (x.1 ≠ i) || decide (x.2 = n)) = true) (h1:105 ≠ i) (h2:106 ≠ i):LG w0 pw po bx os K N (RV.upd γ i (wv u d)) (more L i) w':=
 ⟨h.k.step hb,h.told.call hd hs hi,by rw [RV.mn h1,RV.upd_ne _ _ h1];exact fun e=>(h.sl e).step hb,by rw [RV.mn h2,RV.upd_ne _ _ h2];exact fun e=>(h.as_ e).step hb⟩
end
def i64 (n:Int):Prop:=-9223372036854775808 <= n/\n <= 9223372036854775807
theorem isV.i64 {a:V3} {C:Int} (h:isV a C) (hC:C <= 9223372036854775807):i64 a.x/\i64 a.y/\i64 a.z:=by
 unfold isV at h
 unfold Go.Proofs.YteebbpioffdncaaGreat.i64
 omega
theorem CW.c3 {W:World} {p:Nat} {x y z:Value} (h:CW W p [x,y,z]):W.cell? ⟨p,0,none⟩ = some x/\W.cell? ⟨p,1,none⟩ = some y/\W.cell? ⟨p,2,none⟩ = some z:=⟨(h 0 _ rfl).1,(h 1 _ rfl).1,(h 2 _ rfl).1⟩
theorem CW.cl {W:World} {p:Nat} {b:Bd} {R:List Value} (h:CW W p (b.L R)):W.cell? ⟨p,11,none⟩ = some (J I b.l.x)/\W.cell? ⟨p,12,none⟩ = some (J I b.l.y)/\W.cell? ⟨p,13,none⟩ = some (J I b.l.z):=⟨(h 11 _ rfl).1,(h 12 _ rfl).1,(h 13 _ rfl).1⟩
section
variable {w0:World} {pw po:Nat} {bx:List (Nat × List Value)} {os:List (Value × List Pt)} {K:List (Nat × Int)} {N:Nat->Int} {i:Nat}
variable {Q:Exit->Act->World->Prop} {D:Nat->Option Tmp} {A:Nat->Nat->Prop} {l:List (Option Value)} {Z:Act} {F:(Nat->Bool)->Act->Prop} {o:Oper}
theorem LG.wideD (T:∀ γ L a w,RV.Held D A (RV.Is l) (LG w0 pw po bx os K N) Z γ L a w->F L a) {p q r s n:Int} (hp:i64 p) (hq:i64 q) (hr:i64 r) (hs:i64 s) (hn:p * q - r * s = n) (hK:(K.all fun x=>decide (x.1 ≠ i) || decide (x.2 = n)) = true) (h1:105 ≠ i) (h2:106 ≠ i) (hi:∀ v w,RV.Is l i v w)
  (hx:∀ L a w,F L a->(∀ e ∈ o.after,JC .any e = true->L e.on = true)->(execOp a.eval o).run Tryz.prog w = .ok (.enter 19 #[J I p,J I q,J I r,J I s]) w) (hgd:o.guard = none:=by rfl):RV.Does Tryz.prog Q D A (RV.Is l) (LG w0 pw po bx os K N) Z i o:=
 RV.dc (fun γ L a w hH hl hA=>⟨_,_,hx L a w (T γ L a w hH) hA,JA (Jlp p q r s w hp hq hr hs) (by rintro e w2 ⟨u,d2,rfl,hS,hb⟩;exact ⟨_,rfl,hi _ _,fun j v _ h=>h.keep _,hH.glob.call (n:=n) hb.out hS.out.1 (hS.out.2.trans hn) hK h1 h2⟩)⟩) hgd
theorem LG.aboutD (T:∀ γ L a w,RV.Held D A (RV.Is l) (LG w0 pw po bx os K N) Z γ L a w->F L a) (j t:Nat) {X e n:Int} (hD:D j = some t) (hj:(j,X) ∈ K) (hw:⟨j,.data⟩ ∈ o.after) (hX:-1701411834604692317316873037158841057280 <= X/\X <= 1701411834604692317316873037158841057280) (he:i64 e) (hn:X + e * 4294967296 = n) (hK:(K.all fun x=>decide (x.1 ≠ i) || decide (x.2 = n)) = true) (h1:105 ≠ i) (h2:106 ≠ i) (hi:∀ v w,RV.Is l i v w)
  (hx:∀ L a w u d,F L a->(∀ e ∈ o.after,JC .any e = true->L e.on = true)->a.tmps[t]? = some (wv u d)->(execOp a.eval o).run Tryz.prog w = .ok (.enter 18 #[wv u d,J I e]) w) (hgd:o.guard = none:=by rfl):RV.Does Tryz.prog Q D A (RV.Is l) (LG w0 pw po bx os K N) Z i o:=
 RV.dc (fun γ L a w hH hl hA=>by
  have l0:L j = true:=hA ⟨j,.data⟩ hw rfl
  have s0:=hH.slot j t hD l0
  obtain ⟨u,d,g,D0,S0⟩:=hH.glob.told (j,X) hj l0
  rw [g] at s0
  exact ⟨_,_,hx L a w u d (T γ L a w hH) hA s0,JA (Jkl u d e X w D0 S0 hX he) (by rintro e w2 ⟨u,d2,rfl,hS,hb⟩;exact ⟨_,rfl,hi _ _,fun j v _ h=>h.keep _,hH.glob.call (n:=n) hb.out hS.out.1 (hS.out.2.trans hn) hK h1 h2⟩)⟩) hgd
theorem LG.plusD (j t j' t':Nat) {X Y n:Int} (hD:D j = some t) (hD':D j' = some t') (hj:(j,X) ∈ K) (hj':(j',Y) ∈ K) (hw:⟨j,.data⟩ ∈ o.after) (hw':⟨j',.data⟩ ∈ o.after) (hf:(X + Y).natAbs < 6277101735386680763835789423207666416102355444464034512896) (hn:X + Y = n) (hK:(K.all fun x=>decide (x.1 ≠ i) || decide (x.2 = n)) = true) (h1:105 ≠ i) (h2:106 ≠ i) (hi:∀ v w,RV.Is l i v w)
  (hx:∀ (a:Act) w u d u' d',a.tmps[t]? = some (wv u d)->a.tmps[t']? = some (wv u' d')->(execOp a.eval o).run Tryz.prog w = .ok (.enter 17 #[wv u d,wv u' d']) w) (hgd:o.guard = none:=by rfl):RV.Does Tryz.prog Q D A (RV.Is l) (LG w0 pw po bx os K N) Z i o:=
 RV.dc (fun γ L a w hH hl hA=>by
  have l0:L j = true:=hA ⟨j,.data⟩ hw rfl
  have s0:=hH.slot j t hD l0
  obtain ⟨u,d,g,D0,S0⟩:=hH.glob.told (j,X) hj l0
  rw [g] at s0
  have l1:L j' = true:=hA ⟨j',.data⟩ hw' rfl
  have s1:=hH.slot j' t' hD' l1
  obtain ⟨u',d',g',D1,S1⟩:=hH.glob.told (j',Y) hj' l1
  rw [g'] at s1
  dsimp only at S0 S1
  exact ⟨_,_,hx a w u d u' d' s0 s1,JA (Jdl u u' d d' w D0 D1 (by rw [S0,S1];exact hf)) (by rintro e w2 ⟨u,d2,rfl,hS,hb⟩;exact ⟨_,rfl,hi _ _,fun j v _ h=>h.keep _,hH.glob.call (n:=n) hb.out hS.out.1 (by have h:=hS.out.2;rw [S0,S1] at h;exact h.trans hn) hK h1 h2⟩)⟩) hgd
end
theorem Jhf {w:World} {b:Nat} {U:Nat->Bool} {E:Nat->Nat->Int} (h:CW w b (wl (U 0) (E 0) ++ (wl (U 1) (E 1) ++ wl (U 2) (E 2)))):∀ k,k < 3->World.rangeAt w b (k * 9) (wl (U k) (E k)):=fun k hk j v e=>by
 have hj:j < 9:=(List.getElem?_eq_some_iff.1 e).1
 refine (h (k * 9 + j) v ?_).1
 match k,hk with
 | 0,_=>rw [Nat.zero_mul,Nat.zero_add,List.getElem?_append_left hj];exact e
 | 1,_ =>
  rw [List.getElem?_append_right (by show 9 <= _;omega)]
  show (wl (U 1) (E 1) ++ wl (U 2) (E 2))[1 * 9 + j - 9]? = _
  rw [show 1 * 9 + j - 9 = j by omega,List.getElem?_append_left hj];exact e
 | 2,_ =>
  rw [List.getElem?_append_right (by show 9 <= _;omega)]
  show (wl (U 1) (E 1) ++ wl (U 2) (E 2))[2 * 9 + j - 9]? = _
  rw [List.getElem?_append_right (by show 9 <= _;omega)]
  show (wl (U 2) (E 2))[2 * 9 + j - 9 - 9]? = _
  rw [show 2 * 9 + j - 9 - 9 = j by omega];exact e
theorem Jf7 {cl xl dl yl ay az py pz qy qz jy jz ky kz:Int} (h1:cl = xl + ((ay - py) * jz + (az - pz) * -jy) / 4294967296) (h2:dl = yl + ((ay - qy) * kz + (az - qz) * -ky) / 4294967296) (hy:ky = -jy) (hz:kz = -jz)
  (b1:-9007199254740992 <= cl/\cl <= 9007199254740992) (b2:-9007199254740992 <= xl/\xl <= 9007199254740992) (b3:-9007199254740992 <= dl/\dl <= 9007199254740992) (b4:-9007199254740992 <= yl/\yl <= 9007199254740992)
  (p1:-4398046511104 <= py/\py <= 4398046511104) (p2:-4398046511104 <= pz/\pz <= 4398046511104) (p3:-4398046511104 <= qy/\qy <= 4398046511104) (p4:-4398046511104 <= qz/\qz <= 4398046511104) (p5:-4398046511104 <= jy/\jy <= 4398046511104) (p6:-4398046511104 <= jz/\jz <= 4398046511104) :
  ∃ a b e f A B n:Int,(py * jz - pz * jy = a/\qy * kz - qz * ky = b)/\(IntKind.i64.wrap (cl - xl) = e/\IntKind.i64.wrap (dl - yl) = f)/\(a + e * 4294967296 = A/\b + f * 4294967296 = B)/\(A + B = n/\-8589934592 < n/\n < 8589934592) /\
   ((-1701411834604692317316873037158841057280 <= a/\a <= 1701411834604692317316873037158841057280)/\(-1701411834604692317316873037158841057280 <= b/\b <= 1701411834604692317316873037158841057280))/\((-9223372036854775808 <= e/\e <= 9223372036854775807)/\(-9223372036854775808 <= f/\f <= 9223372036854775807)) /\
   ((-1701411834604692317316873037158841057280000 <= A/\A <= 1701411834604692317316873037158841057280000)/\(-1701411834604692317316873037158841057280000 <= B/\B <= 1701411834604692317316873037158841057280000)):=by
 have e1:IntKind.i64.wrap (cl - xl) = cl - xl:=by rw [IntKind.wrap_i64];omega
 have e2:IntKind.i64.wrap (dl - yl) = dl - yl:=by rw [IntKind.wrap_i64];omega
 subst hy hz
 obtain ⟨N,hN,n1,n2⟩:=Js0 ay az py pz qy qz jy jz
 have m1:=Je3 p1 p6
 have m2:=Je3 p2 p5
 have m3:=Je3 p3 p6
 have m4:=Je3 p4 p5
 have s3:qy * -jz = -(qy * jz):=Int.mul_neg _ _
 have s4:qz * -jy = -(qz * jy):=Int.mul_neg _ _
 refine ⟨_,_,cl - xl,dl - yl,_,_,_,⟨rfl,rfl⟩,⟨e1,e2⟩,⟨rfl,rfl⟩,⟨rfl,?_,?_⟩,⟨by omega,by omega⟩,⟨by omega,by omega⟩,⟨by omega,by omega⟩⟩
 ·have d1:cl - xl = ((ay - py) * jz + (az - pz) * -jy) / 4294967296:=by omega
  have d2:dl - yl = ((ay - qy) * -jz + (az - qz) * - -jy) / 4294967296:=by omega
  rw [d1,d2,hN];exact n1
 ·have d1:cl - xl = ((ay - py) * jz + (az - pz) * -jy) / 4294967296:=by omega
  have d2:dl - yl = ((ay - qy) * -jz + (az - qz) * - -jy) / 4294967296:=by omega
  rw [d1,d2,hN];exact n2
end
section
open Go.ChangeShapes Go.WideShapes Go.Deep Go.Joins
section
variable {H:Type} {enc:TypeId × Value->H} {w:World} {base:Nat} {spare:Nat->Bool} {held:Bool}
theorem Jsd {fuel:Nat} {u0 u1 u2 u3 u4 u5:Value} {z:DataW H × List MemPlace} (hf2:DataW.trod enc Tryz.prog w base spare held fuel 26 [u0,u1,u2,u3,u4,u5] = some z) :
  ∃ (k rr x y z:Int) (a:Option Addr) (L:List Pt) (cap:Nat),u0 = J I k/\u1 = J I rr/\u2 = J I x/\u3 = J I y/\u4 = J I z/\u5 = .slice a L.length cap/\Lies w (.slice a L.length cap) L/\(∀ p ∈ L,p.fits)/\(Lit.int .i64 k).wf = true/\(Lit.int .i64 rr).wf = true/\(Lit.int .i64 x).wf = true/\(Lit.int .i64 y).wf = true/\(Lit.int .i64 z).wf = true:=by
 obtain ⟨xs,n,_,_,_,hxl,hel⟩:=DataW.trod_struct underlying26 hf2
 have hc1:Tryz.prog.cellsOf 3 = 1:=by kernel_rfl
 have hc3:Tryz.prog.cellsOf 23 = 3:=by kernel_rfl
 have hcs:Tryz.prog.cellsOf 24 = 1:=by kernel_rfl
 have some_of:∀ j,j < 4->∃ z,xs[j]? = some z:=fun j hj=>⟨_,List.getElem?_eq_getElem (by rw [hxl];exact hj)⟩
 obtain ⟨z0,hz0⟩:=some_of 0 (by omega)
 obtain ⟨z1,hz1⟩:=some_of 1 (by omega)
 obtain ⟨z2,hz2⟩:=some_of 2 (by omega)
 obtain ⟨z3,hz3⟩:=some_of 3 (by omega)
 have e0:=hel 0 _ rfl
 have e1:=hel 1 _ rfl
 have e2:=hel 2 _ rfl
 have e3:=hel 3 _ rfl
 rw [hz0] at e0
 rw [hz1] at e1
 rw [hz2] at e2
 rw [hz3] at e3
 have q0:DataW.trod enc Tryz.prog w base spare held n 3 [u0] = some z0:=by have this:DataW.trod enc Tryz.prog w base spare held n 3 (([u0,u1,u2,u3,u4,u5].drop 0).take (Tryz.prog.cellsOf 3)) = some z0:=e0;rw [hc1] at this;exact this
 have q1:DataW.trod enc Tryz.prog w base spare held n 3 [u1] = some z1:=by have this:DataW.trod enc Tryz.prog w base spare held n 3 (([u0,u1,u2,u3,u4,u5].drop 1).take (Tryz.prog.cellsOf 3)) = some z1:=e1;rw [hc1] at this;exact this
 have q2:DataW.trod enc Tryz.prog w base spare held n 23 [u2,u3,u4] = some z2:=by have this:DataW.trod enc Tryz.prog w base spare held n 23 (([u0,u1,u2,u3,u4,u5].drop 2).take (Tryz.prog.cellsOf 23)) = some z2:=e2;rw [hc3] at this;exact this
 have q3:DataW.trod enc Tryz.prog w base spare held n 24 [u5] = some z3:=by have this:DataW.trod enc Tryz.prog w base spare held n 24 (([u0,u1,u2,u3,u4,u5].drop 5).take (Tryz.prog.cellsOf 24)) = some z3:=e3;rw [hcs] at this;exact this
 obtain ⟨k,rfl,_,wk⟩:=Jbk q0
 obtain ⟨rr,rfl,_,wr⟩:=Jbk q1
 obtain ⟨ys,m,_,_,_,hyl,hey⟩:=DataW.trod_struct underlying23 q2
 have some_y:∀ j,j < 3->∃ z,ys[j]? = some z:=fun j hj=>⟨_,List.getElem?_eq_getElem (by rw [hyl];exact hj)⟩
 obtain ⟨y0,hy0⟩:=some_y 0 (by omega)
 obtain ⟨y1,hy1⟩:=some_y 1 (by omega)
 obtain ⟨y2,hy2⟩:=some_y 2 (by omega)
 have g0:=hey 0 _ rfl
 have g1:=hey 1 _ rfl
 have g2:=hey 2 _ rfl
 rw [hy0] at g0
 rw [hy1] at g1
 rw [hy2] at g2
 have p0:DataW.trod enc Tryz.prog w base spare held m 3 [u2] = some y0:=by have this:DataW.trod enc Tryz.prog w base spare held m 3 (([u2,u3,u4].drop 0).take (Tryz.prog.cellsOf 3)) = some y0:=g0;rw [hc1] at this;exact this
 have p1:DataW.trod enc Tryz.prog w base spare held m 3 [u3] = some y1:=by have this:DataW.trod enc Tryz.prog w base spare held m 3 (([u2,u3,u4].drop 1).take (Tryz.prog.cellsOf 3)) = some y1:=g1;rw [hc1] at this;exact this
 have p2:DataW.trod enc Tryz.prog w base spare held m 3 [u4] = some y2:=by have this:DataW.trod enc Tryz.prog w base spare held m 3 (([u2,u3,u4].drop 2).take (Tryz.prog.cellsOf 3)) = some y2:=g2;rw [hc1] at this;exact this
 obtain ⟨x,rfl,_,wx⟩:=Jbk p0
 obtain ⟨y,rfl,_,wy⟩:=Jbk p1
 obtain ⟨z,rfl,_,wz⟩:=Jbk p2
 have hs:∃ a len cap,u5 = .slice a len cap:=by
  rcases Deep.open_slice underlying24 q3 with ⟨hcs,_⟩ | ⟨y,l,c,mm,nn,D,Pl,hcs,_⟩
  ·simp at hcs;exact ⟨_,_,_,hcs⟩
  ·simp at hcs;exact ⟨_,_,_,hcs⟩
 obtain ⟨a,len,cap,rfl⟩:=hs
 obtain ⟨L,rfl,hL,hF⟩:=Jog q3
 exact ⟨k,rr,x,y,z,a,L,cap,rfl,rfl,rfl,rfl,rfl,rfl,hL,hF,wk,wr,wx,wy,wz⟩
theorem Jr4 {fuel:Nat} {u0 u1 u2 u3 u4 u5 u6:Value} {z:DataW H × List MemPlace} (hf2:DataW.trod enc Tryz.prog w base spare held fuel 31 [u0,u1,u2,u3,u4,u5,u6] = some z) :
  ∃ x0 x1 x2 x3 x4 x5 x6:Int,u0 = J I x0/\u1 = J I x1/\u2 = J I x2/\u3 = J I x3/\u4 = J I x4/\u5 = J I x5/\u6 = J I x6/\(Lit.int .i64 x0).wf = true/\(Lit.int .i64 x1).wf = true/\(Lit.int .i64 x2).wf = true/\(Lit.int .i64 x3).wf = true/\(Lit.int .i64 x4).wf = true/\(Lit.int .i64 x5).wf = true/\(Lit.int .i64 x6).wf = true:=by
 obtain ⟨xs,n,_,_,_,hxl,hel⟩:=DataW.trod_struct underlying31 hf2
 have hc3:Tryz.prog.cellsOf 27 = 3:=by kernel_rfl
 have hc4:Tryz.prog.cellsOf 29 = 4:=by kernel_rfl
 have some_of:∀ j,j < 2->∃ z,xs[j]? = some z:=fun j hj=>⟨_,List.getElem?_eq_getElem (by rw [hxl];exact hj)⟩
 obtain ⟨z0,hz0⟩:=some_of 0 (by omega)
 obtain ⟨z1,hz1⟩:=some_of 1 (by omega)
 have e0:=hel 0 _ rfl
 have e1:=hel 1 _ rfl
 rw [hz0] at e0
 rw [hz1] at e1
 have q0:DataW.trod enc Tryz.prog w base spare held n 27 [u0,u1,u2] = some z0:=by have this:DataW.trod enc Tryz.prog w base spare held n 27 (([u0,u1,u2,u3,u4,u5,u6].drop 0).take (Tryz.prog.cellsOf 27)) = some z0:=e0;rw [hc3] at this;exact this
 have q1:DataW.trod enc Tryz.prog w base spare held n 29 [u3,u4,u5,u6] = some z1:=by have this:DataW.trod enc Tryz.prog w base spare held n 29 (([u0,u1,u2,u3,u4,u5,u6].drop 3).take (Tryz.prog.cellsOf 29)) = some z1:=e1;rw [hc4] at this;exact this
 obtain ⟨x0,x1,x2,rfl,rfl,rfl,k0,k1,k2⟩:=Jtd q0
 obtain ⟨x3,x4,x5,x6,rfl,rfl,rfl,rfl,k3,k4,k5,k6⟩:=Jsi q1
 exact ⟨x0,x1,x2,x3,x4,x5,x6,rfl,rfl,rfl,rfl,rfl,rfl,rfl,k0,k1,k2,k3,k4,k5,k6⟩
end
end
section
open Go.ChangeShapes Go.WideShapes Go.Deep Go.Joins
theorem Jt5 {cs:Array Value} (h:cs.size = 25):∃ u0 u1 u2 u3 u4 u5 u6 u7 u8 u9 u10 u11 u12 u13 u14 u15 u16 u17 u18 u19 u20 u21 u22 u23 u24,cs = #[u0,u1,u2,u3,u4,u5,u6,u7,u8,u9,u10,u11,u12,u13,u14,u15,u16,u17,u18,u19,u20,u21,u22,u23,u24]:=by
 obtain ⟨l⟩:=cs
 match l,h with
 | [u0,u1,u2,u3,u4,u5,u6,u7,u8,u9,u10,u11,u12,u13,u14,u15,u16,u17,u18,u19,u20,u21,u22,u23,u24],_=>exact ⟨u0,u1,u2,u3,u4,u5,u6,u7,u8,u9,u10,u11,u12,u13,u14,u15,u16,u17,u18,u19,u20,u21,u22,u23,u24,rfl⟩
section
variable {H:Type} {enc:TypeId × Value->H} {w:World} {base:Nat} {spare:Nat->Bool} {held:Bool}
theorem Jhw {rr:Reach} {b0:Nat} {v:Value} {d:DataW H} {p:List MemPlace} (hv:Value.okWide Tryz.prog w rr b0 33 v) (h:DataW.Trod enc Tryz.prog w base spare held 33 v d p) :
  ∃ (k r hx hy hz:Int) (o:Option Addr) (Ls:List Pt) (c:Nat) (at0 at1 at2 qa qb_ qc qd ms fr p0 p1 p2 l0 l1 l2:Int) (fx fa:Bool) (gr ma:Int),v = .agg #[J I k,J I r,J I hx,J I hy,J I hz,.slice o Ls.length c,J I at0,J I at1,J I at2,J I qa,J I qb_,J I qc,J I qd,J I ms,J I fr,J I p0,J I p1,J I p2,J I l0,J I l1,J I l2,.bool fx,.bool fa,J I gr,J I ma]/\Lies w (.slice o Ls.length c) Ls/\(∀ p ∈ Ls,p.fits)/\∀ v ∈ ([k,r,hx,hy,hz,at0,at1,at2,qa,qb_,qc,qd,ms,fr,p0,p1,p2,l0,l1,l2,gr,ma]:List Int),-9223372036854775808 <= v/\v <= 9223372036854775807:=by
 obtain ⟨cs,rfl,hsz⟩:=okWide_struct underlying33 hv
 have hC:Tryz.prog.cellsOf 33 = 25:=by kernel_rfl
 obtain ⟨u0,u1,u2,u3,u4,u5,u6,u7,u8,u9,u10,u11,u12,u13,u14,u15,u16,u17,u18,u19,u20,u21,u22,u23,u24,rfl⟩:=Jt5 (hsz.trans hC)
 obtain ⟨fuel,hf⟩:=h
 have hf2:DataW.trod enc Tryz.prog w base spare held fuel 33 [u0,u1,u2,u3,u4,u5,u6,u7,u8,u9,u10,u11,u12,u13,u14,u15,u16,u17,u18,u19,u20,u21,u22,u23,u24] = some (d,p):=hf
 obtain ⟨xs,n,_,_,_,hxl,hel⟩:=DataW.trod_struct underlying33 hf2
 have some_of:∀ j,j < 10->∃ z,xs[j]? = some z:=fun j hj=>⟨_,List.getElem?_eq_getElem (by rw [hxl];exact hj)⟩
 have hc0_:Tryz.prog.cellsOf 26 = 6:=by kernel_rfl
 obtain ⟨zz0,hz0⟩:=some_of 0 (by omega)
 have e0:=hel 0 _ rfl
 rw [hz0] at e0
 have f0:DataW.trod enc Tryz.prog w base spare held n 26 [u0,u1,u2,u3,u4,u5] = some zz0:=by have this:DataW.trod enc Tryz.prog w base spare held n 26 (([u0,u1,u2,u3,u4,u5,u6,u7,u8,u9,u10,u11,u12,u13,u14,u15,u16,u17,u18,u19,u20,u21,u22,u23,u24].drop 0).take (Tryz.prog.cellsOf 26)) = some zz0:=e0;rw [hc0_] at this;exact this
 have hc1_:Tryz.prog.cellsOf 31 = 7:=by kernel_rfl
 obtain ⟨zz1,hz1⟩:=some_of 1 (by omega)
 have e1:=hel 1 _ rfl
 rw [hz1] at e1
 have f1:DataW.trod enc Tryz.prog w base spare held n 31 [u6,u7,u8,u9,u10,u11,u12] = some zz1:=by have this:DataW.trod enc Tryz.prog w base spare held n 31 (([u0,u1,u2,u3,u4,u5,u6,u7,u8,u9,u10,u11,u12,u13,u14,u15,u16,u17,u18,u19,u20,u21,u22,u23,u24].drop 6).take (Tryz.prog.cellsOf 31)) = some zz1:=e1;rw [hc1_] at this;exact this
 have hc2_:Tryz.prog.cellsOf 3 = 1:=by kernel_rfl
 obtain ⟨zz2,hz2⟩:=some_of 2 (by omega)
 have e2:=hel 2 _ rfl
 rw [hz2] at e2
 have f2:DataW.trod enc Tryz.prog w base spare held n 3 [u13] = some zz2:=by have this:DataW.trod enc Tryz.prog w base spare held n 3 (([u0,u1,u2,u3,u4,u5,u6,u7,u8,u9,u10,u11,u12,u13,u14,u15,u16,u17,u18,u19,u20,u21,u22,u23,u24].drop 13).take (Tryz.prog.cellsOf 3)) = some zz2:=e2;rw [hc2_] at this;exact this
 have hc3_:Tryz.prog.cellsOf 3 = 1:=by kernel_rfl
 obtain ⟨zz3,hz3⟩:=some_of 3 (by omega)
 have e3:=hel 3 _ rfl
 rw [hz3] at e3
 have f3:DataW.trod enc Tryz.prog w base spare held n 3 [u14] = some zz3:=by have this:DataW.trod enc Tryz.prog w base spare held n 3 (([u0,u1,u2,u3,u4,u5,u6,u7,u8,u9,u10,u11,u12,u13,u14,u15,u16,u17,u18,u19,u20,u21,u22,u23,u24].drop 14).take (Tryz.prog.cellsOf 3)) = some zz3:=e3;rw [hc3_] at this;exact this
 have hc4_:Tryz.prog.cellsOf 27 = 3:=by kernel_rfl
 obtain ⟨zz4,hz4⟩:=some_of 4 (by omega)
 have e4:=hel 4 _ rfl
 rw [hz4] at e4
 have f4:DataW.trod enc Tryz.prog w base spare held n 27 [u15,u16,u17] = some zz4:=by have this:DataW.trod enc Tryz.prog w base spare held n 27 (([u0,u1,u2,u3,u4,u5,u6,u7,u8,u9,u10,u11,u12,u13,u14,u15,u16,u17,u18,u19,u20,u21,u22,u23,u24].drop 15).take (Tryz.prog.cellsOf 27)) = some zz4:=e4;rw [hc4_] at this;exact this
 have hc5_:Tryz.prog.cellsOf 27 = 3:=by kernel_rfl
 obtain ⟨zz5,hz5⟩:=some_of 5 (by omega)
 have e5:=hel 5 _ rfl
 rw [hz5] at e5
 have f5:DataW.trod enc Tryz.prog w base spare held n 27 [u18,u19,u20] = some zz5:=by have this:DataW.trod enc Tryz.prog w base spare held n 27 (([u0,u1,u2,u3,u4,u5,u6,u7,u8,u9,u10,u11,u12,u13,u14,u15,u16,u17,u18,u19,u20,u21,u22,u23,u24].drop 18).take (Tryz.prog.cellsOf 27)) = some zz5:=e5;rw [hc5_] at this;exact this
 have hc6_:Tryz.prog.cellsOf 4 = 1:=by kernel_rfl
 obtain ⟨zz6,hz6⟩:=some_of 6 (by omega)
 have e6:=hel 6 _ rfl
 rw [hz6] at e6
 have f6:DataW.trod enc Tryz.prog w base spare held n 4 [u21] = some zz6:=by have this:DataW.trod enc Tryz.prog w base spare held n 4 (([u0,u1,u2,u3,u4,u5,u6,u7,u8,u9,u10,u11,u12,u13,u14,u15,u16,u17,u18,u19,u20,u21,u22,u23,u24].drop 21).take (Tryz.prog.cellsOf 4)) = some zz6:=e6;rw [hc6_] at this;exact this
 have hc7_:Tryz.prog.cellsOf 4 = 1:=by kernel_rfl
 obtain ⟨zz7,hz7⟩:=some_of 7 (by omega)
 have e7:=hel 7 _ rfl
 rw [hz7] at e7
 have f7:DataW.trod enc Tryz.prog w base spare held n 4 [u22] = some zz7:=by have this:DataW.trod enc Tryz.prog w base spare held n 4 (([u0,u1,u2,u3,u4,u5,u6,u7,u8,u9,u10,u11,u12,u13,u14,u15,u16,u17,u18,u19,u20,u21,u22,u23,u24].drop 22).take (Tryz.prog.cellsOf 4)) = some zz7:=e7;rw [hc7_] at this;exact this
 have hc8_:Tryz.prog.cellsOf 3 = 1:=by kernel_rfl
 obtain ⟨zz8,hz8⟩:=some_of 8 (by omega)
 have e8:=hel 8 _ rfl
 rw [hz8] at e8
 have f8:DataW.trod enc Tryz.prog w base spare held n 3 [u23] = some zz8:=by have this:DataW.trod enc Tryz.prog w base spare held n 3 (([u0,u1,u2,u3,u4,u5,u6,u7,u8,u9,u10,u11,u12,u13,u14,u15,u16,u17,u18,u19,u20,u21,u22,u23,u24].drop 23).take (Tryz.prog.cellsOf 3)) = some zz8:=e8;rw [hc8_] at this;exact this
 have hc9_:Tryz.prog.cellsOf 3 = 1:=by kernel_rfl
 obtain ⟨zz9,hz9⟩:=some_of 9 (by omega)
 have e9:=hel 9 _ rfl
 rw [hz9] at e9
 have f9:DataW.trod enc Tryz.prog w base spare held n 3 [u24] = some zz9:=by have this:DataW.trod enc Tryz.prog w base spare held n 3 (([u0,u1,u2,u3,u4,u5,u6,u7,u8,u9,u10,u11,u12,u13,u14,u15,u16,u17,u18,u19,u20,u21,u22,u23,u24].drop 24).take (Tryz.prog.cellsOf 3)) = some zz9:=e9;rw [hc9_] at this;exact this
 clear hel some_of hxl hf2 hf hv
 obtain ⟨k,r,hx,hy,hz,o,Ls,c,rfl,rfl,rfl,rfl,rfl,rfl,hL1,hF1,a0,a1,a2,a3,a4⟩:=Jsd f0
 obtain ⟨at0,at1,at2,qa,qb_,qc,qd,rfl,rfl,rfl,rfl,rfl,rfl,rfl,b0_,b1_,b2_,b3_,b4_,b5_,b6_⟩:=Jr4 f1
 obtain ⟨ms,rfl,_,g0_⟩:=Jbk f2
 obtain ⟨fr,rfl,_,g1_⟩:=Jbk f3
 obtain ⟨p0,p1,p2,rfl,rfl,rfl,g2_,g3_,g4_⟩:=Jh8 f4
 obtain ⟨l0,l1,l2,rfl,rfl,rfl,g5_,g6_,g7_⟩:=Jh8 f5
 obtain ⟨fx,rfl⟩:=Joa f6
 obtain ⟨fa,rfl⟩:=Joa f7
 obtain ⟨gr,rfl,_,g8_⟩:=Jbk f8
 obtain ⟨ma,rfl,_,g9_⟩:=Jbk f9
 refine ⟨k,r,hx,hy,hz,o,Ls,c,at0,at1,at2,qa,qb_,qc,qd,ms,fr,p0,p1,p2,l0,l1,l2,fx,fa,gr,ma,rfl,hL1,hF1,fun v hv=>?_⟩
 have wf:(Lit.int .i64 v).wf = true:=by
  simp only [List.mem_cons,List.not_mem_nil,or_false] at hv
  rcases hv with rfl | rfl | rfl | rfl | rfl | rfl | rfl | rfl | rfl | rfl | rfl | rfl | rfl | rfl | rfl | rfl | rfl | rfl | rfl | rfl | rfl | rfl <;> assumption
 have:=bounds_i64 wf
 omega
theorem Jiy {rr:Reach} {b0:Nat} {v:Value} {d:DataW H} {p:List MemPlace} (hv:Value.okWide Tryz.prog w rr b0 27 v) (h:DataW.Trod enc Tryz.prog w base spare held 27 v d p):∃ a:V3,v = a.val/\∀ n ∈ ([a.x,a.y,a.z]:List Int),-9223372036854775808 <= n/\n <= 9223372036854775807:=by
 obtain ⟨cs,rfl,hsz⟩:=okWide_struct underlying27 hv
 have hC:Tryz.prog.cellsOf 27 = 3:=by kernel_rfl
 obtain ⟨u0,u1,u2,rfl⟩:=Jua (hsz.trans hC)
 obtain ⟨fuel,hf⟩:=h
 obtain ⟨x,y,z,rfl,rfl,rfl,w1,w2,w3⟩:=Jh8 (show DataW.trod enc Tryz.prog w base spare held fuel 27 [u0,u1,u2] = some (d,p) from hf)
 refine ⟨⟨x,y,z⟩,rfl,fun n hn=>?_⟩
 have wf:(Lit.int .i64 n).wf = true:=by
  simp only [List.mem_cons,List.not_mem_nil,or_false] at hn
  rcases hn with rfl | rfl | rfl <;> assumption
 have:=bounds_i64 wf
 omega
end
end
end Go.Proofs.YteebbpioffdncaaGreat
