/- A brick's corners, the three straight ways, a list's clone. -/
import Derived.Test.YtlhhmiicpddjoaaGreatSPRight2
import Derived.Lib.BufferMore
import Derived.Test.YtlhhmiicpddjoaaGreatSPRight0
import Derived.Test.YtlhhmiicpddjoaaGreatProg
import Derived.WalkKit
import Derived.Laws.MathBits
import Derived.Laws.Externs
import Derived.Handy
set_option maxHeartbeats 4000000
set_option maxRecDepth 100000
set_option linter.unusedVariables false
namespace Go.Proofs.YtlhhmiicpddjoaaGreat
section
open Go.RowKit Go.Shelf
def cornersP (h:Pt):List Pt:=[⟨-h.x,-h.y,-h.z⟩,⟨-h.x,-h.y,h.z⟩,⟨-h.x,h.y,-h.z⟩,⟨-h.x,h.y,h.z⟩,⟨h.x,-h.y,-h.z⟩,⟨h.x,-h.y,h.z⟩,⟨h.x,h.y,-h.z⟩,⟨h.x,h.y,h.z⟩]
def straightP:List Pt:=[⟨1,0,0⟩,⟨0,1,0⟩,⟨0,0,1⟩]
theorem straight_any (w:World) :
  Calls Tryz.prog 93 #[] w fun e W=>∃ u,e = .returned u/\Row w W u straightP:=by
 go_enter Tryz.func93,Tryz.ntmps93
 go_wp2
 go_ret
 exact ⟨_,rfl,⟨World.ownsRow_lit (e:=23) (size:=3) w _ 3 (Nat.le_refl _) (by unfold maxLen;omega) rfl,n_after w _⟩⟩
theorem clone_any (v:Value) (L:List Pt) (w:World) (hv:Lies w v L) (h0:L ≠ []) (hl:L.length <= 100000) :
  Calls Tryz.prog 94 #[v] w fun e W=>∃ u,e = .returned u/\Row w W u L:=by
 obtain ⟨i0,hii,hiz,hisz,hib⟩:=info_parts point_info
 have HI:Hid _:=And.intro hii (And.intro hiz (And.intro hisz hib))
 clear hii hiz hisz hib
 obtain ⟨o,cp,rfl,hlc,hcm,hx⟩:=hv.cells
 obtain ⟨g,off,rfl,hcell⟩:=hx.resolve_left h0
 have HC:Hid (∀ j u,(fl3 L)[j]? = some u->(w.alloc (.cells #[] 23)).cell? ((⟨g,off,none⟩:Addr).add j) = some u):=fun j u hj=>by
  have ad:(⟨g,off,none⟩:Addr).add j = ⟨g,off + j,none⟩:=by unfold Addr.add;split <;> simp_all
  rw [ad];exact c_after (n_after w _) (hcell j u hj)
 have HCL:Hid _:=fl3_length L
 clear hv hcell hx h0
 have hnil:∀ W,(binOp .eql 24 (.slice (some ⟨g,off,none⟩) L.length cp) (.slice none 0 0)).run Tryz.prog W = .ok (.bool false) W:=fun W=>Lib.run_eql_slice_some_nil W _ _ _ Tryz.underlying24
 go_enter Tryz.func94,Tryz.ntmps94
 go_wp2_with (at_builtin;refine wpList_append_own _ rfl _ _ 24 rfl w.heap.size 23 i0 _ 3 24 Tryz.underlying24 HI.out.1 HI.out.2.1 HI.out.2.2.1 HI.out.2.2.2 rfl (by decide) _ 0 [] rfl (World.ownsRow_lit (e:=23) (size:=3) w #[] 0 (Nat.le_refl _) (by unfold maxLen;omega) rfl) ⟨g,off,none⟩ L.length cp (fl3 L) rfl HCL.out HC.out (fl3_one L) (by unfold maxLen;omega) (by omega) (by simp) ?_;intro u9 V2 r8 g8 _)
 go_ret
 rw [Nat.zero_add,List.nil_append] at r8
 exact ⟨_,rfl,r8,((Below.refl _ w).alloc (Nat.le_refl _) _).grown g8 (by simp) (fun k e=>by cases e;exact Nat.le_refl _)⟩
def sg (i:Nat) (x:Int):Int:=if i = 0 then -x else x
theorem idx_any (i:Nat) (hi:i < 2) (x:Int) (W:World):(Instr.index 146 (.agg #[.int .i64 (-x),.int .i64 x]) (.int .i64 (i:Int))).run Tryz.prog W = .ok (.int .i64 (sg i x)) W:=by
 have:i = 0 \/ i = 1:=by omega
 rcases this with rfl | rfl
 ·simp [Instr.index,run_underlying Tryz.underlying146,asIntOf,go_sem,sg]
 ·simp [Instr.index,run_underlying Tryz.underlying146,asIntOf,go_sem,sg]
theorem corner_next (h:Pt) (i j k:Nat) (hi:i < 2) (hj:j < 2) (hk:k < 2):(cornersP h).take (4 * i + 2 * j + k) ++ [⟨sg i h.x,sg j h.y,sg k h.z⟩] = (cornersP h).take (4 * i + 2 * j + (k + 1)):=by
 have h1:i = 0 \/ i = 1:=by omega
 have h2:j = 0 \/ j = 1:=by omega
 have h3:k = 0 \/ k = 1:=by omega
 rcases h1 with rfl | rfl <;> rcases h2 with rfl | rfl <;> rcases h3 with rfl | rfl <;> rfl
theorem corners_any (h:Pt) (w:World) (hh:h.inB 1152921504606846976 = true) :
  Calls Tryz.prog 92 #[h.v] w fun e W=>∃ u,e = .returned u/\Row w W u (cornersP h):=by
 obtain ⟨i0,hii,hiz,hisz,hib⟩:=info_parts point_info
 have HI:Hid _:=And.intro hii (And.intro hiz (And.intro hisz hib))
 clear hii hiz hisz hib
 have HT:Hid _:=(Two.start w).new h 23
 rw [Pt.inB_iff] at hh
 unfold Pt.v
 have HCP:Hid (∀ M,M = (cornersP h).take 8->M = cornersP h):=fun M hM=>by rw [hM];rfl
 have HNX:Hid _:=fun i j k=>corner_next h i j k
 have hbx:=HT.out.head
 obtain ⟨c0,c1,c2,_,_,_⟩:=hbx
 dsimp only at c0 c1 c2
 go_enter Tryz.func92,Tryz.ntmps92
 go_wp2_with (fail)
 clear c0 c1 c2
 go_loopg [3,16] 2 (fun gm u s wr=>∃ (i:Nat) (D:List Pt) (oo:Option Addr) (cc:Nat),u = .slice oo D.length cc/\s = .int .i64 (i:Int)/\i <= 2/\gm = 2 - i/\D.length <= 4 * i/\Hid (D = (cornersP h).take (4 * i))/\Hid (Two w wr (.slice oo D.length cc) (.slice none 0 0) D [] [(w.heap.size,h)]))
 case atStart=>exact ⟨0,[],none,0,rfl,rfl,by omega,rfl,by simp,rfl,HT⟩
 case round =>
  clear HT
  obtain ⟨i,D,oo,cc,rfl,rfl,hi,hgm,hDl,HD,HT⟩:=hrel
  have HG1:Hid _:=hgm
  clear hgm
  by_cases hit:i < 2
  ·have ix:=idx_any i hit h.x
   obtain ⟨c0,c1,c2,_,_,_⟩:=HT.out.head
   dsimp only at c0 c1 c2
   generalize hsx:sg i h.x = sx at *
   have HSX:Hid _:=hsx
   clear hsx
   go_wp2_with (fail)
   clear c0 c1 c2 ix
   go_loopg [3,25] 2 (fun gm u s wr=>∃ (j:Nat) (D:List Pt) (oo:Option Addr) (cc:Nat),u = .slice oo D.length cc/\s = .int .i64 (j:Int)/\j <= 2/\gm = 2 - j/\D.length <= 4 * i + 2 * j/\Hid (D = (cornersP h).take (4 * i + 2 * j))/\Hid (Two w wr (.slice oo D.length cc) (.slice none 0 0) D [] [(w.heap.size,h)]))
   case atStart=>exact ⟨0,D,oo,cc,rfl,rfl,by omega,rfl,by omega,HD,HT⟩
   case round =>
    clear HT HD hDl
    obtain ⟨j,D,oo,cc,rfl,rfl,hj,hgm,hDl,HD,HT⟩:=hrel
    have HG2:Hid _:=hgm
    clear hgm
    by_cases hjt:j < 2
    ·have ix:=idx_any j hjt h.y
     obtain ⟨c0,c1,c2,_,_,_⟩:=HT.out.head
     dsimp only at c0 c1 c2
     generalize hsy:sg j h.y = sy at *
     have HSY:Hid _:=hsy
     clear hsy
     go_wp2_with (fail)
     clear c0 c1 c2 ix
     go_loopg [3,34] 2 (fun gm u s wr=>∃ (k:Nat) (D:List Pt) (oo:Option Addr) (cc:Nat),u = .slice oo D.length cc/\s = .int .i64 (k:Int)/\k <= 2/\gm = 2 - k/\D.length <= 4 * i + 2 * j + k/\Hid (D = (cornersP h).take (4 * i + 2 * j + k))/\Hid (Two w wr (.slice oo D.length cc) (.slice none 0 0) D [] [(w.heap.size,h)]))
     case atStart=>exact ⟨0,D,oo,cc,rfl,rfl,by omega,rfl,by omega,HD,HT⟩
     case round =>
      clear HT HD hDl
      obtain ⟨k,D,oo,cc,rfl,rfl,hk,hgm,hDl,HD,HT⟩:=hrel
      have HG3:Hid _:=hgm
      clear hgm
      by_cases hkt:k < 2
      ·have ix:=idx_any k hkt h.z
       have HN:Hid (D ++ [⟨sx,sy,sg k h.z⟩] = (cornersP h).take (4 * i + 2 * j + (k + 1))):=by show _ = _;rw [HD.out,<- HNX.out i j k hit hjt hkt,HSX.out,HSY.out]
       clear HD
       generalize sg k h.z = sz at *
       have hws:=HT.out.below.size
       go_wp2_with (at_builtin;refine wpList_append_own_at _ rfl _ _ 24 rfl w.heap.size 23 i0 _ 3 24 Tryz.underlying24 HI.out.1 HI.out.2.1 HI.out.2.2.1 HI.out.2.2.2 rfl (by decide) _ _ _ rfl (own_below HT.out.ra (n_after wr _)) ⟨wr.heap.size,0,none⟩ 1 1 [.int .i64 sx,.int .i64 sy,.int .i64 sz] rfl rfl (news_at (heap_alloc_new wr _)) (by intro u hu;simp at hu;rcases hu with rfl | rfl | rfl <;> rfl) (by unfold maxLen;omega) (by omega) (by simp;omega) ?_;intro u9 V6 r8 g8 _ s8;obtain ⟨gg8,kk8,rfl⟩:=ownsRow_succ r8;have HT:Hid _:=(HT.out.step (n_after wr _)).axis (A':=D ++ [⟨sx,sy,sz⟩]) (by rw [fl3_append,List.length_append];exact r8) ⟨g8,(by rcases s8 with e | e;exact Or.inl e;exact Or.inr ⟨_,e,Nat.le_refl _⟩)⟩;clear r8 g8 s8)
       go_roundg (2 - (k + 1))
       case measure=>have:=HG3.out;omega
       case rel=>exact ⟨k + 1,D ++ [⟨sx,sy,sz⟩],some ⟨gg8,0,none⟩,kk8,by rw [List.length_append];rfl,by go_num,by omega,rfl,by rw [List.length_append];simp;omega,HN,by rw [List.length_append];exact HT⟩
      ·have e:k = 2:=by omega
       subst e
       have HD:Hid (D = (cornersP h).take (4 * i + 2 * (j + 1))):=by show _ = _;rw [HD.out,show 4 * i + 2 * j + 2 = 4 * i + 2 * (j + 1) by omega]
       go_wp2_with (fail)
       go_roundg (2 - (j + 1))
       case measure=>have:=HG2.out;omega
       case rel=>exact ⟨j + 1,D,oo,cc,rfl,by go_num,by omega,rfl,by omega,HD,HT⟩
    ·have e:j = 2:=by omega
     subst e
     have HD:Hid (D = (cornersP h).take (4 * (i + 1))):=by show _ = _;rw [HD.out,show 4 * i + 2 * 2 = 4 * (i + 1) by omega]
     go_wp2_with (fail)
     go_roundg (2 - (i + 1))
     case measure=>have:=HG1.out;omega
     case rel=>exact ⟨i + 1,D,oo,cc,rfl,by go_num,by omega,rfl,by omega,HD,HT⟩
  ·have e:i = 2:=by omega
   subst e
   have HD:=HCP.out D HD.out
   subst HD
   go_wp2_with (fail)
   go_ret
   exact ⟨_,rfl,HT.out.ra,HT.out.below⟩
end
section
open Go.RowKit Go.Shelf
def ptsP (s:Sh):List Pt:=if s.kind = 1 then [Pt.O] else if s.kind = 2 then [⟨-s.half.x,0,0⟩,⟨s.half.x,0,0⟩] else if s.kind = 3 then cornersP s.half else s.pts
def axesP (s:Sh):List Pt:=if s.kind = 3 then straightP else if s.kind = 4 then (sidesP s.pts).1 else []
def edgesP (s:Sh):List Pt:=if s.kind = 2 then [⟨1,0,0⟩] else if s.kind = 3 then straightP else if s.kind = 4 then (sidesP s.pts).2 else []
theorem own_le {w:World} {base base':Nat} {t:TypeId} {sz n:Nat} {u:Value} {xs:List Value} (h:w.ownsRow base t sz u n xs) (hb:base' <= base):w.ownsRow base' t sz u n xs:=Go.Joins.ownsRow_le h hb
structure Three (w0 W:World) (vp va ve:Value) (P A E:List Pt):Prop where
 rp:W.ownsRow w0.heap.size 23 3 vp P.length (fl3 P)
 ra:W.ownsRow w0.heap.size 23 3 va A.length (fl3 A)
 re:W.ownsRow w0.heap.size 23 3 ve E.length (fl3 E)
 pa:∀ k,vp.ownBlock = some k->va.ownBlock ≠ some k
 pe:∀ k,vp.ownBlock = some k->ve.ownBlock ≠ some k
 ae:∀ k,va.ownBlock = some k->ve.ownBlock ≠ some k
 below:Below w0.heap.size w0 W
theorem Three.step {w0 W X:World} {vp va ve:Value} {P A E:List Pt} (h:Three w0 W vp va ve P A E) (hb:Below W.heap.size W X):Three w0 X vp va ve P A E:=
 ⟨own_below h.rp hb,own_below h.ra hb,own_below h.re hb,h.pa,h.pe,h.ae,b_step h.below hb⟩
def set4 (W:World) (b:Nat) (v0 v1 v2 v3:Value):World:=(((W.setCell ⟨b,0,none⟩ v0).setCell ⟨b,1,none⟩ v1).setCell ⟨b,2,none⟩ v2).setCell ⟨b,3,none⟩ v3
theorem own_set4 {W:World} {base:Nat} {t:TypeId} {sz n:Nat} {u:Value} {xs:List Value} {b:Nat} (h:W.ownsRow base t sz u n xs) (hne:u.ownBlock ≠ some b) (v0 v1 v2 v3:Value):(set4 W b v0 v1 v2 v3).ownsRow base t sz u n xs:=
 ownsRow_setCell_other (ownsRow_setCell_other (ownsRow_setCell_other (ownsRow_setCell_other h hne _) hne _) hne _) hne _
theorem set4_below {n:Nat} {w W:World} {b:Nat} (h:Below n w W) (hb:n <= b) (v0 v1 v2 v3:Value):Below n w (set4 W b v0 v1 v2 v3):=(((h.setCell hb _).setCell hb _).setCell hb _).setCell hb _
theorem Three.set {w0 W:World} {vp va ve:Value} {P A E:List Pt} {b:Nat} (h:Three w0 W vp va ve P A E) (hb:w0.heap.size <= b) (h1:vp.ownBlock ≠ some b) (h2:va.ownBlock ≠ some b) (h3:ve.ownBlock ≠ some b) (v0 v1 v2 v3:Value):Three w0 (set4 W b v0 v1 v2 v3) vp va ve P A E:=
 ⟨own_set4 h.rp h1 _ _ _ _,own_set4 h.ra h2 _ _ _ _,own_set4 h.re h3 _ _ _ _,h.pa,h.pe,h.ae,set4_below h.below hb _ _ _ _⟩
theorem three_nil {w0 W:World} (h:Below w0.heap.size w0 W):Three w0 W (.slice none 0 0) (.slice none 0 0) (.slice none 0 0) [] [] []:=
 ⟨World.ownsRow_nil _ _ _ _,World.ownsRow_nil _ _ _ _,World.ownsRow_nil _ _ _ _,(fun _ h=>by cases h),(fun _ h=>by cases h),(fun _ h=>by cases h),h⟩
def Cells (W:World) (b:Nat) (vs:List Value):Prop:=∀ i v,vs[i]? = some v->W.cell? ⟨b,i,none⟩ = some v/\W.frozen? ⟨b,i,none⟩ = false
theorem Cells.step {A B:World} {b:Nat} {vs:List Value} (h:Cells A b vs) (hb:Below A.heap.size A B):Cells B b vs:=fun i v e=>⟨c_after hb (h i v e).1,f_after hb (h i v e).1 (h i v e).2⟩
theorem Cells.new (w:World) (vs:List Value) (t:TypeId):Cells (w.alloc (.cells vs.toArray t)) w.heap.size vs:=fun i v e=>⟨by simp [e],by simp [go_sem]⟩
theorem Cells.set {W:World} {b:Nat} {vs:List Value} (h:Cells W b vs) (k:Nat) (u:Value) (hk:k < vs.length):Cells (W.setCell ⟨b,k,none⟩ u) b (vs.set k u):=by
 intro i v e
 by_cases hik:i = k
 ·subst hik
  rw [List.getElem?_set_self hk] at e
  cases e
  obtain ⟨h1,h2⟩:=h i _ (List.getElem?_eq_getElem hk)
  exact ⟨by simp [go_sem,h1],by simp [go_sem,h2]⟩
 ·rw [List.getElem?_set_ne (Ne.symm hik)] at e
  obtain ⟨h1,h2⟩:=h i v e
  exact ⟨by simp [go_sem,h1],by simp [go_sem,h2]⟩
theorem Cells.set4 {W:World} {b:Nat} {x0 x1 x2 x3:Value} (h:Cells W b [x0,x1,x2,x3]) (v0 v1 v2 v3:Value):Cells (set4 W b v0 v1 v2 v3) b [v0,v1,v2,v3]:=(((h.set 0 v0 (by simp)).set 1 v1 (by simp)).set 2 v2 (by simp)).set 3 v3 (by simp)
theorem own_one {w:World} {base:Nat} {p:Pt} (hb:base <= w.heap.size):(w.alloc (.cells #[.int .i64 p.x,.int .i64 p.y,.int .i64 p.z] 23)).ownsRow base 23 3 (.slice (some ⟨w.heap.size,0,none⟩) 1 1) [p].length (fl3 [p]):=
 World.ownsRow_lit (e:=23) (size:=3) w #[.int .i64 p.x,.int .i64 p.y,.int .i64 p.z] 1 hb (by unfold maxLen;omega) rfl
theorem own_two {w:World} {base:Nat} {p q:Pt} (hb:base <= w.heap.size):(w.alloc (.cells #[.int .i64 p.x,.int .i64 p.y,.int .i64 p.z,.int .i64 q.x,.int .i64 q.y,.int .i64 q.z] 23)).ownsRow base 23 3 (.slice (some ⟨w.heap.size,0,none⟩) 2 2) [p,q].length (fl3 [p,q]):=
 World.ownsRow_lit (e:=23) (size:=3) w #[.int .i64 p.x,.int .i64 p.y,.int .i64 p.z,.int .i64 q.x,.int .i64 q.y,.int .i64 q.z] 2 hb (by unfold maxLen;omega) rfl
theorem set4_size (W:World) (b:Nat) (v0 v1 v2 v3:Value):(set4 W b v0 v1 v2 v3).heap.size = W.heap.size:=by simp [set4,World.setCell]
theorem three_ball {w0 W:World} (h:Below w0.heap.size w0 W) (n:Nat) (hn:n = W.heap.size):Three w0 (W.alloc (.cells #[.int .i64 0,.int .i64 0,.int .i64 0] 23)) (.slice (some ⟨n,0,none⟩) 1 1) (.slice none 0 0) (.slice none 0 0) [Pt.O] [] []:=by
 subst hn
 exact ⟨own_one (p:=Pt.O) h.size,World.ownsRow_nil _ _ _ _,World.ownsRow_nil _ _ _ _,(fun _ _ h=>by cases h),(fun _ _ h=>by cases h),(fun _ h=>by cases h),b_step h (n_after _ _)⟩
theorem three_capsule {w0 W:World} (h:Below w0.heap.size w0 W) (x:Int) (n m:Nat) (hn:n = W.heap.size) (hm:m = W.heap.size + 1):Three w0 ((W.alloc (.cells #[.int .i64 (-x),.int .i64 0,.int .i64 0,.int .i64 x,.int .i64 0,.int .i64 0] 23)).alloc (.cells #[.int .i64 1,.int .i64 0,.int .i64 0] 23)) (.slice (some ⟨n,0,none⟩) 2 2) (.slice none 0 0) (.slice (some ⟨m,0,none⟩) 1 1) [⟨-x,0,0⟩,⟨x,0,0⟩] [] [⟨1,0,0⟩]:=by
 subst hn hm
 have hs:w0.heap.size <= (W.alloc (.cells #[.int .i64 (-x),.int .i64 0,.int .i64 0,.int .i64 x,.int .i64 0,.int .i64 0] 23)).heap.size:=by have:=h.size;simp;omega
 have k2:=own_one (w:=W.alloc (.cells #[.int .i64 (-x),.int .i64 0,.int .i64 0,.int .i64 x,.int .i64 0,.int .i64 0] 23)) (base:=w0.heap.size) (p:=⟨1,0,0⟩) hs
 rw [World.size_alloc] at k2
 refine ⟨own_below (own_two (p:=⟨-x,0,0⟩) (q:=⟨x,0,0⟩) h.size) (n_after _ _),World.ownsRow_nil _ _ _ _,k2,(fun _ _ h=>by cases h),(fun k h e=>?_),(fun _ h=>by cases h),b_step h (b_step (n_after _ _) (n_after _ _))⟩
 simp only [Value.ownBlock,Option.some.injEq] at h e
 omega
theorem Three.put {w0 W:World} {vp va ve:Value} {P A E:List Pt} {b:Nat} (h:Three w0 W vp va ve P A E) (hb:w0.heap.size <= b) (h1:vp.ownBlock ≠ some b) (h2:va.ownBlock ≠ some b) (h3:ve.ownBlock ≠ some b) (k:Nat) (v:Value):Three w0 (W.setCell ⟨b,k,none⟩ v) vp va ve P A E:=
 ⟨ownsRow_setCell_other h.rp h1 _,ownsRow_setCell_other h.ra h2 _,ownsRow_setCell_other h.re h3 _,h.pa,h.pe,h.ae,h.below.setCell hb _⟩
theorem three_of {w0 X0 X1 X2 X3:World} {vp va ve:Value} {P A E:List Pt} (h:Below w0.heap.size w0 X0) (hp:Row X0 X1 vp P) (ha:Row X1 X2 va A) (he:Row X2 X3 ve E) :
  Three w0 X3 vp va ve P A E/\∀ b,b < X0.heap.size->vp.ownBlock ≠ some b/\va.ownBlock ≠ some b/\ve.ownBlock ≠ some b:=by
 have s1:=hp.below.size
 have s2:=ha.below.size
 have s3:=he.below.size
 have s0:=h.size
 refine ⟨⟨own_below (own_below (own_le hp.row s0) ha.below) he.below,own_below (own_le ha.row (by omega)) he.below,own_le he.row (by omega),fun k e1 e2=>?_,fun k e1 e2=>?_,fun k e1 e2=>?_,b_step (b_step (b_step h hp.below) ha.below) he.below⟩,fun b hb=>⟨fun e=>?_,fun e=>?_,fun e=>?_⟩⟩
 ·have a:=(hp.row.lt k e1).2;have b:=(ha.row.lt k e2).1;omega
 ·have a:=(hp.row.lt k e1).2;have b:=(he.row.lt k e2).1;omega
 ·have a:=(ha.row.lt k e1).2;have b:=(he.row.lt k e2).1;omega
 ·have a:=(hp.row.lt b e).1;omega
 ·have a:=(ha.row.lt b e).1;omega
 ·have a:=(he.row.lt b e).1;omega
theorem three_hull {w0 X0 X1 X3:World} {vp va ve:Value} {P A E:List Pt} {b5:Nat} (h:Below w0.heap.size w0 X0) (hb5:w0.heap.size <= b5) (hb5':b5 < X0.heap.size) (hp:Row X0 X1 vp P) (k:Nat) (v:Value) (ha:Two (X1.setCell ⟨b5,k,none⟩ v) X3 va ve A E []) :
  Three w0 X3 vp va ve P A E/\∀ b,b < X0.heap.size->vp.ownBlock ≠ some b/\va.ownBlock ≠ some b/\ve.ownBlock ≠ some b:=by
 have s1:=hp.below.size
 have s0:=h.size
 have sz:(X1.setCell ⟨b5,k,none⟩ v).heap.size = X1.heap.size:=by simp [World.setCell]
 have bl:=ha.below
 have s3:=bl.size
 have hpo:(X1.setCell ⟨b5,k,none⟩ v).ownsRow w0.heap.size 23 3 vp P.length (fl3 P):=ownsRow_setCell_other (own_le hp.row s0) (fun e=>by have:=(hp.row.lt b5 e).1;omega) _
 have ra:=ha.ra
 have re:=ha.re
 rw [sz] at ra re
 refine ⟨⟨own_below hpo bl,own_le ra (by omega),own_le re (by omega),fun k e1 e2=>?_,fun k e1 e2=>?_,fun k e1 e2=>ha.apart k e2 e1,b_step ((b_step h hp.below).setCell hb5 _) bl⟩,fun b hb=>⟨fun e=>?_,fun e=>?_,fun e=>?_⟩⟩
 ·have a:=(hp.row.lt k e1).2;have b:=(ra.lt k e2).1;omega
 ·have a:=(hp.row.lt k e1).2;have b:=(re.lt k e2).1;omega
 ·have a:=(hp.row.lt b e).1;omega
 ·have a:=(ra.lt b e).1;omega
 ·have a:=(re.lt b e).1;omega
theorem core_any (s:Sh) (pv:Value) (w0:World) (hv:Lies w0 pv s.pts) :
  Calls Tryz.prog 50 #[s.v pv] w0 fun e W=>∃ vp va ve,(checkP s ≠ 0->e = .returned (.tuple #[.agg #[vp,va,ve,.int .i64 0],.int .i64 (checkP s)])/\Three w0 W vp va ve [] [] [])/\(checkP s = 0->e = .returned (.tuple #[.agg #[vp,va,ve,.int .i64 s.radius],.int .i64 0])/\Three w0 W vp va ve (ptsP s) (axesP s) (edgesP s)):=by
 have hB:Hid (Below w0.heap.size w0 ((w0.alloc (.cells #[.int .i64 s.kind,.int .i64 s.radius,.int .i64 s.half.x,.int .i64 s.half.y,.int .i64 s.half.z,pv] 37)).alloc (.cells #[.slice none 0 0,.slice none 0 0,.slice none 0 0,.int .i64 0] 33))):=b_step (n_after w0 _) (n_after _ _)
 have HF:Hid _:=check_any s pv ((w0.alloc (.cells #[.int .i64 s.kind,.int .i64 s.radius,.int .i64 s.half.x,.int .i64 s.half.y,.int .i64 s.half.z,pv] 37)).alloc (.cells #[.slice none 0 0,.slice none 0 0,.slice none 0 0,.int .i64 0] 33)) (hv.below hB.out)
 have B1:Hid (Cells ((w0.alloc (.cells #[.int .i64 s.kind,.int .i64 s.radius,.int .i64 s.half.x,.int .i64 s.half.y,.int .i64 s.half.z,pv] 37)).alloc (.cells #[.slice none 0 0,.slice none 0 0,.slice none 0 0,.int .i64 0] 33)) w0.heap.size [.int .i64 s.kind,.int .i64 s.radius,.int .i64 s.half.x,.int .i64 s.half.y,.int .i64 s.half.z,pv]):=(Cells.new w0 [.int .i64 s.kind,.int .i64 s.radius,.int .i64 s.half.x,.int .i64 s.half.y,.int .i64 s.half.z,pv] _).step (n_after _ _)
 have B2:Hid (Cells ((w0.alloc (.cells #[.int .i64 s.kind,.int .i64 s.radius,.int .i64 s.half.x,.int .i64 s.half.y,.int .i64 s.half.z,pv] 37)).alloc (.cells #[.slice none 0 0,.slice none 0 0,.slice none 0 0,.int .i64 0] 33)) (w0.heap.size + 1) [.slice none 0 0,.slice none 0 0,.slice none 0 0,.int .i64 0]):=by have:=Cells.new (w0.alloc (.cells #[.int .i64 s.kind,.int .i64 s.radius,.int .i64 s.half.x,.int .i64 s.half.y,.int .i64 s.half.z,pv] 37)) [.slice none 0 0,.slice none 0 0,.slice none 0 0,.int .i64 0] 33;rwa [World.size_alloc] at this
 have HFO:Hid (checkP s = 0->formP s = true):=fun h=>by
  cases hf:formP s with
  | true=>rfl
  | false=>unfold checkP at h;rw [hf] at h;simp at h
 obtain ⟨k,r,⟨hx,hy,hz⟩,L⟩:=s
 have HPT:Hid (ptsP ⟨k,r,⟨hx,hy,hz⟩,L⟩ = if k = 1 then [Pt.O] else if k = 2 then [⟨-hx,0,0⟩,⟨hx,0,0⟩] else if k = 3 then cornersP ⟨hx,hy,hz⟩ else L):=rfl
 have HAX:Hid (axesP ⟨k,r,⟨hx,hy,hz⟩,L⟩ = if k = 3 then straightP else if k = 4 then (sidesP L).1 else []):=rfl
 have HED:Hid (edgesP ⟨k,r,⟨hx,hy,hz⟩,L⟩ = if k = 2 then [⟨1,0,0⟩] else if k = 3 then straightP else if k = 4 then (sidesP L).2 else []):=rfl
 have HFM:Hid (formP ⟨k,r,⟨hx,hy,hz⟩,L⟩ = if k = 1 then inR r 1 16384 else if k = 2 then inR r 1 16384 && halfOk hx else if k = 3 then inR r 0 16384 && (halfOk hx && (halfOk hy && halfOk hz)) else if k = 4 then inR r 0 16384 && mayP L else false):=rfl
 have HCK:Hid (checkP ⟨k,r,⟨hx,hy,hz⟩,L⟩ = checkP ⟨k,r,⟨hx,hy,hz⟩,L⟩):=rfl
 generalize ptsP ⟨k,r,⟨hx,hy,hz⟩,L⟩ = P at *
 generalize axesP ⟨k,r,⟨hx,hy,hz⟩,L⟩ = A at *
 generalize edgesP ⟨k,r,⟨hx,hy,hz⟩,L⟩ = E at *
 generalize checkP ⟨k,r,⟨hx,hy,hz⟩,L⟩ = C at *
 generalize formP ⟨k,r,⟨hx,hy,hz⟩,L⟩ = F at *
 have HV:Hid _:=hv
 obtain ⟨o,c,rfl,hlc,hcm,_⟩:=hv.form
 clear hv HCK
 unfold Sh.v at *
 dsimp only at *
 go_enter Tryz.func50,Tryz.ntmps50
 go_wp2_with (fail)
 refine Calls.mono HF.out ?_
 clear HF
 rintro e V ⟨rfl,hb⟩
 have D1:Hid (Cells V w0.heap.size [.int .i64 k,.int .i64 r,.int .i64 hx,.int .i64 hy,.int .i64 hz,.slice o L.length c]):=Cells.step B1.out hb
 have D2:Hid (Cells V (w0.heap.size + 1) [.slice none 0 0,.slice none 0 0,.slice none 0 0,.int .i64 0]):=Cells.step B2.out hb
 have hD:Hid (Below w0.heap.size w0 V):=b_step hB.out hb
 clear B1 B2 hB
 have hsz:w0.heap.size + 1 < V.heap.size:=World.block_lt_of_cell? _ _ (D2.out 0 _ rfl).1
 have hsz0:w0.heap.size < V.heap.size:=by omega
 clear hb
 have r0:=(D2.out 0 _ rfl).1
 have r1:=(D2.out 1 _ rfl).1
 have r2:=(D2.out 2 _ rfl).1
 have r3:=(D2.out 3 _ rfl).1
 have f0:=(D2.out 0 _ rfl).2
 have f1:=(D2.out 1 _ rfl).2
 have f2:=(D2.out 2 _ rfl).2
 have f3:=(D2.out 3 _ rfl).2
 by_cases hC:C = 0
 ·subst hC
  have hF:=HFO.out rfl
  clear HFO
  subst hF
  have s0:=(D1.out 0 _ rfl).1
  have s1:=(D1.out 1 _ rfl).1
  have s2:=(D1.out 2 _ rfl).1
  have s3:=(D1.out 3 _ rfl).1
  have s4:=(D1.out 4 _ rfl).1
  have s5:=(D1.out 5 _ rfl).1
  by_cases k1:k = 1
  ·subst k1
   have eP:P = [Pt.O]:=HPT.out
   have eA:A = []:=HAX.out
   have eE:E = []:=HED.out
   clear HPT HAX HED HFM
   subst eP eA eE
   clear s2 s3 s4 s5
   go_wp2_with (fail)
   have hX:=set4_below hD.out (by omega:w0.heap.size <= w0.heap.size + 1) (.slice (some ⟨V.heap.size + 1,0,none⟩) 1 1) (.slice none 0 0) (.slice none 0 0) (.int .i64 r)
   have BF:=Cells.set4 D2.out (.slice (some ⟨V.heap.size + 1,0,none⟩) 1 1) (.slice none 0 0) (.slice none 0 0) (.int .i64 r)
   have hS:=set4_size V (w0.heap.size + 1) (.slice (some ⟨V.heap.size + 1,0,none⟩) 1 1) (.slice none 0 0) (.slice none 0 0) (.int .i64 r)
   generalize hY:set4 V (w0.heap.size + 1) (.slice (some ⟨V.heap.size + 1,0,none⟩) 1 1) (.slice none 0 0) (.slice none 0 0) (.int .i64 r) = Y at *
   unfold set4 at hY
   rw [hY]
   clear r0 r1 r2 r3 f0 f1 f2 f3 hY
   have BG:=Cells.step BF (b_step (n_after Y (.cells #[.slice (some ⟨V.heap.size + 1,0,none⟩) 1 1,.slice none 0 0,.slice none 0 0,.int .i64 r] 33)) (n_after _ (.cells #[.int .i64 0,.int .i64 0,.int .i64 0] 23)))
   have z0:=(BG 0 _ rfl).1
   have z1:=(BG 1 _ rfl).1
   have z2:=(BG 2 _ rfl).1
   have z3:=(BG 3 _ rfl).1
   refine bodyPost_ret (v:=.tuple #[.agg #[.slice (some ⟨V.heap.size + 1,0,none⟩) 1 1,.slice none 0 0,.slice none 0 0,.int .i64 r],.int .i64 0]) (by simp [results,Tryz.results50,go_sem,z0,z1,z2,z3]) rfl ⟨_,_,_,rfl,?_⟩
   exact three_ball (b_step hX (n_after _ _)) _ (by rw [World.size_alloc,hS])
  by_cases k2:k = 2
  ·subst k2
   have eP:P = [⟨-hx,0,0⟩,⟨hx,0,0⟩]:=HPT.out
   have eA:A = []:=HAX.out
   have eE:E = [⟨1,0,0⟩]:=HED.out
   have hhx:1 <= hx/\hx <= 65536:=by
    have:=HFM.out
    simp [halfOk] at this
    exact this.2
   clear HPT HAX HED HFM
   subst eP eA eE
   clear s3 s4 s5
   go_wp2_with (fail)
   have hX:=set4_below hD.out (by omega:w0.heap.size <= w0.heap.size + 1) (.slice (some ⟨V.heap.size + 1,0,none⟩) 2 2) (.slice none 0 0) (.slice (some ⟨V.heap.size + 1 + 1,0,none⟩) 1 1) (.int .i64 r)
   have BF:=Cells.set4 D2.out (.slice (some ⟨V.heap.size + 1,0,none⟩) 2 2) (.slice none 0 0) (.slice (some ⟨V.heap.size + 1 + 1,0,none⟩) 1 1) (.int .i64 r)
   have hS:=set4_size V (w0.heap.size + 1) (.slice (some ⟨V.heap.size + 1,0,none⟩) 2 2) (.slice none 0 0) (.slice (some ⟨V.heap.size + 1 + 1,0,none⟩) 1 1) (.int .i64 r)
   generalize hY:set4 V (w0.heap.size + 1) (.slice (some ⟨V.heap.size + 1,0,none⟩) 2 2) (.slice none 0 0) (.slice (some ⟨V.heap.size + 1 + 1,0,none⟩) 1 1) (.int .i64 r) = Y at *
   unfold set4 at hY
   rw [hY]
   clear r0 r1 r2 r3 f0 f1 f2 f3 hY
   have BG:=Cells.step BF (b_step (b_step (n_after Y (.cells #[.slice (some ⟨V.heap.size + 1,0,none⟩) 2 2,.slice none 0 0,.slice (some ⟨V.heap.size + 1 + 1,0,none⟩) 1 1,.int .i64 r] 33)) (n_after _ (.cells #[.int .i64 (-hx),.int .i64 0,.int .i64 0,.int .i64 hx,.int .i64 0,.int .i64 0] 23))) (n_after _ (.cells #[.int .i64 1,.int .i64 0,.int .i64 0] 23)))
   have z0:=(BG 0 _ rfl).1
   have z1:=(BG 1 _ rfl).1
   have z2:=(BG 2 _ rfl).1
   have z3:=(BG 3 _ rfl).1
   refine bodyPost_ret (v:=.tuple #[.agg #[.slice (some ⟨V.heap.size + 1,0,none⟩) 2 2,.slice none 0 0,.slice (some ⟨V.heap.size + 1 + 1,0,none⟩) 1 1,.int .i64 r],.int .i64 0]) (by simp [results,Tryz.results50,go_sem,z0,z1,z2,z3]) rfl ⟨_,_,_,rfl,?_⟩
   exact three_capsule (b_step hX (n_after _ _)) hx _ _ (by rw [World.size_alloc,hS]) (by rw [World.size_alloc,hS])
  by_cases k3:k = 3
  ·subst k3
   have eP:P = cornersP ⟨hx,hy,hz⟩:=HPT.out
   have eA:A = straightP:=HAX.out
   have eE:E = straightP:=HED.out
   have hh:(1 <= hx/\hx <= 65536)/\(1 <= hy/\hy <= 65536)/\(1 <= hz/\hz <= 65536):=by
    have:=HFM.out
    simp [halfOk] at this
    exact this.2
   have hin:Pt.inB ⟨hx,hy,hz⟩ 1152921504606846976 = true:=by rw [Pt.inB_iff];dsimp only;omega
   clear HPT HAX HED HFM hh
   subst eA eE
   have B5:Hid (Cells (V.alloc (.cells #[.slice none 0 0,.slice none 0 0,.slice none 0 0,.int .i64 r] 33)) V.heap.size [.slice none 0 0,.slice none 0 0,.slice none 0 0,.int .i64 r]):=Cells.new V _ _
   have HR1:Hid _:=corners_any ⟨hx,hy,hz⟩ (V.alloc (.cells #[.slice none 0 0,.slice none 0 0,.slice none 0 0,.int .i64 r] 33)) hin
   unfold Pt.v at HR1
   dsimp only at HR1
   rw [<- eP] at HR1
   clear eP
   clear s5
   go_wp2_with (fail)
   refine Calls.mono HR1.out ?_
   clear HR1
   rintro e X1 ⟨vp,rfl,hp⟩
   clear s0 s1 s2 s3 s4 r0 r1 r2 r3 f0 f1 f2 f3
   obtain ⟨o1,c1,rfl,_⟩:=hp.lies.form
   go_wp2_with (fail)
   refine Calls.mono (straight_any X1) ?_
   rintro e X2 ⟨va,rfl,ha⟩
   obtain ⟨o2,c2,rfl,_⟩:=ha.lies.form
   go_wp2_with (fail)
   refine Calls.mono (straight_any X2) ?_
   rintro e X3 ⟨ve,rfl,he⟩
   obtain ⟨o3,c3,rfl,_⟩:=he.lies.form
   obtain ⟨h3,hoff⟩:=three_of (b_step hD.out (n_after V _)) hp ha he
   have hbX:Below (V.alloc (.cells #[.slice none 0 0,.slice none 0 0,.slice none 0 0,.int .i64 r] 33)).heap.size (V.alloc (.cells #[.slice none 0 0,.slice none 0 0,.slice none 0 0,.int .i64 r] 33)) X3:=b_step (b_step hp.below ha.below) he.below
   have B5:=Cells.step B5.out hbX
   have D2:=Cells.step D2.out (b_step (n_after V _) hbX)
   have H3:Hid _:=h3
   have HO:Hid _:=hoff
   clear hp ha he hbX h3 hoff
   have r0:=(D2 0 _ rfl).1
   have r1:=(D2 1 _ rfl).1
   have r2:=(D2 2 _ rfl).1
   have r3:=(D2 3 _ rfl).1
   have f0:=(D2 0 _ rfl).2
   have f1:=(D2 1 _ rfl).2
   have f2:=(D2 2 _ rfl).2
   have f3:=(D2 3 _ rfl).2
   have t0:=(B5 0 _ rfl).1
   have t1:=(B5 1 _ rfl).1
   have t2:=(B5 2 _ rfl).1
   have t3:=(B5 3 _ rfl).1
   have g0:=(B5 0 _ rfl).2
   have g1:=(B5 1 _ rfl).2
   have g2:=(B5 2 _ rfl).2
   clear D2 B5
   have hne:¬ V.heap.size = w0.heap.size + 1:=by omega
   have hne':¬ w0.heap.size + 1 = V.heap.size:=by omega
   go_wp2_with (fail)
   obtain ⟨q1,q2,q3⟩:=HO.out V.heap.size (by simp)
   obtain ⟨p1,p2,p3⟩:=HO.out (w0.heap.size + 1) (by simp;omega)
   refine bodyPost_ret (v:=.tuple #[.agg #[.slice o1 P.length c1,.slice o2 straightP.length c2,.slice o3 straightP.length c3,.int .i64 r],.int .i64 0]) (by simp [results,Tryz.results50,go_sem,r0,r1,r2,r3]) rfl ⟨_,_,_,rfl,?_⟩
   exact (((H3.out.put (by omega) q1 q2 q3 0 _).put (by omega) q1 q2 q3 1 _).put (by omega) q1 q2 q3 2 _).set (by omega) p1 p2 p3 _ _ _ _
  by_cases k4:k = 4
  ·subst k4
   have eP:P = L:=HPT.out
   have eA:A = (sidesP L).1:=HAX.out
   have eE:E = (sidesP L).2:=HED.out
   have hm:mayP L = true:=by
    have:=HFM.out
    simp at this
    exact this.2
   obtain ⟨m1,m2,m3,m4⟩:=may_parts hm
   have M3:Hid _:=m3
   have hL0:L ≠ []:=by intro e;rw [e] at m1;simp at m1
   clear HPT HAX HED HFM hm m3 m4
   subst eP
   have EA:Hid _:=eA
   have EE:Hid _:=eE
   clear eA eE
   have B5:Hid (Cells (V.alloc (.cells #[.slice none 0 0,.slice none 0 0,.slice none 0 0,.int .i64 r] 33)) V.heap.size [.slice none 0 0,.slice none 0 0,.slice none 0 0,.int .i64 r]):=Cells.new V _ _
   have HR1:Hid _:=clone_any (.slice o P.length c) P (V.alloc (.cells #[.slice none 0 0,.slice none 0 0,.slice none 0 0,.int .i64 r] 33)) (HV.out.below (b_step hD.out (n_after V _))) hL0 (by omega)
   clear s2 s3 s4
   go_wp2_with (fail)
   refine Calls.mono HR1.out ?_
   clear HR1
   rintro e X1 ⟨vp,rfl,hp⟩
   clear s0 s1 s5 r0 r1 r2 r3 f0 f1 f2 f3
   obtain ⟨o1,c1,rfl,_⟩:=hp.lies.form
   have B5:Hid _:=Cells.step B5.out hp.below
   have D2:Hid _:=Cells.step D2.out (b_step (n_after V _) hp.below)
   have D1:Hid _:=Cells.step D1.out (b_step (n_after V _) hp.below)
   have t0:=(B5.out 0 _ rfl).1
   have g0:=(B5.out 0 _ rfl).2
   have s5:=(D1.out 5 _ rfl).1
   have hne:¬ V.heap.size = w0.heap.size:=by omega
   have hne':¬ w0.heap.size = V.heap.size:=by omega
   have HP:Hid _:=hp
   clear hp
   go_wp2_with (fail)
   have lv:Lies (X1.setCell ⟨V.heap.size,0,none⟩ (.slice o1 P.length c1)) (.slice o P.length c) P:=HV.out.below ((b_step (b_step hD.out (n_after V _)) HP.out.below).setCell (show w0.heap.size <= V.heap.size by omega) _)
   refine Calls.mono (sides_any _ P _ lv m2 M3.out) ?_
   rintro e X3 ⟨va,ve,rfl,ht⟩
   rw [<- EA.out,<- EE.out] at ht
   clear EA EE
   obtain ⟨o2,c2,rfl,_⟩:=(Lies.of_row ht.ra).form
   obtain ⟨o3,c3,rfl,_⟩:=(Lies.of_row ht.re).form
   obtain ⟨h3,hoff⟩:=three_hull (b_step hD.out (n_after V _)) (by omega:w0.heap.size <= V.heap.size) (by simp) HP.out 0 _ ht
   have H3:Hid _:=h3
   have HO:Hid _:=hoff
   have B5:=Cells.step (Cells.set B5.out 0 (.slice o1 P.length c1) (by simp)) ht.below
   have D2:Cells X3 (w0.heap.size + 1) [.slice none 0 0,.slice none 0 0,.slice none 0 0,.int .i64 0]:=Cells.step (A:=X1.setCell ⟨V.heap.size,0,none⟩ (.slice o1 P.length c1)) (fun i v e=>by
    obtain ⟨a,b⟩:=D2.out i v e
    have hne:¬ V.heap.size = w0.heap.size + 1:=by omega
    have hne':¬ w0.heap.size + 1 = V.heap.size:=by omega
    exact ⟨by simp [go_sem,a],by simp [go_sem,b]⟩) ht.below
   clear ht h3 hoff lv t0 g0 s5
   have r0:=(D2 0 _ rfl).1
   have r1:=(D2 1 _ rfl).1
   have r2:=(D2 2 _ rfl).1
   have r3:=(D2 3 _ rfl).1
   have f0:=(D2 0 _ rfl).2
   have f1:=(D2 1 _ rfl).2
   have f2:=(D2 2 _ rfl).2
   have f3:=(D2 3 _ rfl).2
   have t0:=(B5 0 _ rfl).1
   have t1:=(B5 1 _ rfl).1
   have t2:=(B5 2 _ rfl).1
   have t3:=(B5 3 _ rfl).1
   have g1:=(B5 1 _ rfl).2
   have g2:=(B5 2 _ rfl).2
   clear D2 B5
   have hne:¬ V.heap.size = w0.heap.size + 1:=by omega
   have hne':¬ w0.heap.size + 1 = V.heap.size:=by omega
   go_wp2_with (fail)
   obtain ⟨q1,q2,q3⟩:=HO.out V.heap.size (by simp)
   obtain ⟨p1,p2,p3⟩:=HO.out (w0.heap.size + 1) (by simp;omega)
   refine bodyPost_ret (v:=.tuple #[.agg #[.slice o1 P.length c1,.slice o2 A.length c2,.slice o3 E.length c3,.int .i64 r],.int .i64 0]) (by simp [results,Tryz.results50,go_sem,r0,r1,r2,r3]) rfl ⟨_,_,_,rfl,?_⟩
   exact ((H3.out.put (by omega) q1 q2 q3 1 _).put (by omega) q1 q2 q3 2 _).set (by omega) p1 p2 p3 _ _ _ _
  ·have:=HFM.out
   rw [if_neg k1,if_neg k2,if_neg k3,if_neg k4] at this
   cases this
 ·clear HFO
  go_wp2_with (fail)
  refine bodyPost_ret (v:=.tuple #[.agg #[.slice none 0 0,.slice none 0 0,.slice none 0 0,.int .i64 0],.int .i64 C]) (by simp [results,Tryz.results50,go_sem,r0,r1,r2,r3]) rfl ⟨_,_,_,fun _=>⟨rfl,?_⟩,fun h=>absurd h hC⟩
  exact three_nil (set4_below hD.out (by omega) _ _ _ _)
end
section
open Go.RowKit Go.Shelf
def lowI (a b:Int):Int:=if b < a then b else a
def highI (a b:Int):Int:=if b > a then b else a
def Pt.plus (p q:Pt):Pt:=⟨IntKind.i64.wrap (p.x + q.x),IntKind.i64.wrap (p.y + q.y),IntKind.i64.wrap (p.z + q.z)⟩
def Pt.lesser (p q:Pt):Pt:=⟨lowI p.x q.x,lowI p.y q.y,lowI p.z q.z⟩
def Pt.greater (p q:Pt):Pt:=⟨highI p.x q.x,highI p.y q.y,highI p.z q.z⟩
def Pt.le (p q:Pt):Bool:=decide (p.x <= q.x/\p.y <= q.y/\p.z <= q.z)
structure Bx where
 lo:Pt
 hi:Pt
def Bx.v (b:Bx):Value:=.agg #[.int .i64 b.lo.x,.int .i64 b.lo.y,.int .i64 b.lo.z,.int .i64 b.hi.x,.int .i64 b.hi.y,.int .i64 b.hi.z]
def Bx.join (a b:Bx):Bx:=⟨a.lo.lesser b.lo,a.hi.greater b.hi⟩
theorem pthrice_any (n:Int) (w:World) :
  Calls Tryz.prog 85 #[.int .i64 n] w fun e W=>e = .returned (Pt.v ⟨n,n,n⟩)/\Below w.heap.size w W:=by
 unfold Pt.v
 go_enter Tryz.func85,Tryz.ntmps85
 go_wp2
 exact bodyPost_ret (v:=.agg #[.int .i64 n,.int .i64 n,.int .i64 n]) (by simp [results,Tryz.results85,go_sem]) rfl ⟨rfl,n_after w _⟩
theorem pplus_any (p q:Pt) (w:World) :
  Calls Tryz.prog 59 #[p.v,q.v] w fun e W=>e = .returned (p.plus q).v/\Below w.heap.size w W:=by
 obtain ⟨x,y,z⟩:=p
 obtain ⟨x',y',z'⟩:=q
 unfold Pt.v Pt.plus
 dsimp only at *
 obtain ⟨s1,h1⟩:∃ s,IntKind.i64.wrap (x + x') = s:=⟨_,rfl⟩
 obtain ⟨s2,h2⟩:∃ s,IntKind.i64.wrap (y + y') = s:=⟨_,rfl⟩
 obtain ⟨s3,h3⟩:∃ s,IntKind.i64.wrap (z + z') = s:=⟨_,rfl⟩
 rw [h1,h2,h3]
 go_enter Tryz.func59,Tryz.ntmps59
 go_wp2
 exact bodyPost_ret (v:=.agg #[.int .i64 s1,.int .i64 s2,.int .i64 s3]) (by simp [results,Tryz.results59,go_sem]) rfl ⟨rfl,b_step (b_step (n_after w _) (n_after _ _)) (n_after _ _)⟩
theorem lesser_any (p q:Pt) (w:World) :
  Calls Tryz.prog 101 #[p.v,q.v] w fun e W=>e = .returned (p.lesser q).v/\Below w.heap.size w W:=by
 obtain ⟨x,y,z⟩:=p
 obtain ⟨x',y',z'⟩:=q
 unfold Pt.v Pt.lesser lowI
 dsimp only at *
 obtain ⟨s1,h1⟩:∃ s,(if x' < x then x' else x) = s:=⟨_,rfl⟩
 obtain ⟨s2,h2⟩:∃ s,(if y' < y then y' else y) = s:=⟨_,rfl⟩
 obtain ⟨s3,h3⟩:∃ s,(if z' < z then z' else z) = s:=⟨_,rfl⟩
 rw [h1,h2,h3]
 go_enter Tryz.func101,Tryz.ntmps101
 go_wp2
 exact bodyPost_ret (v:=.agg #[.int .i64 s1,.int .i64 s2,.int .i64 s3]) (by simp [results,Tryz.results101,go_sem]) rfl ⟨rfl,b_step (b_step (n_after w _) (n_after _ _)) (n_after _ _)⟩
theorem greater_any (p q:Pt) (w:World) :
  Calls Tryz.prog 102 #[p.v,q.v] w fun e W=>e = .returned (p.greater q).v/\Below w.heap.size w W:=by
 obtain ⟨x,y,z⟩:=p
 obtain ⟨x',y',z'⟩:=q
 unfold Pt.v Pt.greater highI
 dsimp only at *
 obtain ⟨s1,h1⟩:∃ s,(if x' > x then x' else x) = s:=⟨_,rfl⟩
 obtain ⟨s2,h2⟩:∃ s,(if y' > y then y' else y) = s:=⟨_,rfl⟩
 obtain ⟨s3,h3⟩:∃ s,(if z' > z then z' else z) = s:=⟨_,rfl⟩
 rw [h1,h2,h3]
 go_enter Tryz.func102,Tryz.ntmps102
 go_wp2
 exact bodyPost_ret (v:=.agg #[.int .i64 s1,.int .i64 s2,.int .i64 s3]) (by simp [results,Tryz.results102,go_sem]) rfl ⟨rfl,b_step (b_step (n_after w _) (n_after _ _)) (n_after _ _)⟩
theorem noneAbove_any (p q:Pt) (w:World) :
  Calls Tryz.prog 84 #[p.v,q.v] w fun e W=>e = .returned (.bool (p.le q))/\Below w.heap.size w W:=by
 obtain ⟨x,y,z⟩:=p
 obtain ⟨x',y',z'⟩:=q
 unfold Pt.v Pt.le
 dsimp only at *
 by_cases h1:x <= x'
 ·by_cases h2:y <= y'
  ·go_enter Tryz.func84,Tryz.ntmps84
   go_wp2
   go_ret
   exact ⟨by simp [h1,h2],b_step (n_after w _) (n_after _ _)⟩
  ·go_enter Tryz.func84,Tryz.ntmps84
   go_wp2
   go_ret
   exact ⟨by simp;omega,b_step (n_after w _) (n_after _ _)⟩
 ·go_enter Tryz.func84,Tryz.ntmps84
  go_wp2
  go_ret
  exact ⟨by simp;omega,b_step (n_after w _) (n_after _ _)⟩
end
section
open Go.RowKit Go.Shelf
def Bx.grown (a:Bx) (n:Int):Bx:=⟨a.lo.plus ⟨IntKind.i64.wrap (-n),IntKind.i64.wrap (-n),IntKind.i64.wrap (-n)⟩,a.hi.plus ⟨n,n,n⟩⟩
theorem wrap_sub (x n:Int):IntKind.i64.wrap (x - n) = IntKind.i64.wrap (x + IntKind.i64.wrap (-n)):=by simp only [IntKind.wrap_i64];omega
theorem Cells.set6 {W:World} {b:Nat} {u0 u1 u2 u3 u4 u5:Value} (h:Cells W b [u0,u1,u2,u3,u4,u5]) (v0 v1 v2 v3 v4 v5:Value):Cells ((((((W.setCell ⟨b,0,none⟩ v0).setCell ⟨b,1,none⟩ v1).setCell ⟨b,2,none⟩ v2).setCell ⟨b,3,none⟩ v3).setCell ⟨b,4,none⟩ v4).setCell ⟨b,5,none⟩ v5) b [v0,v1,v2,v3,v4,v5]:=
 (((((h.set 0 v0 (by simp)).set 1 v1 (by simp)).set 2 v2 (by simp)).set 3 v3 (by simp)).set 4 v4 (by simp)).set 5 v5 (by simp)
theorem join_any (a b:Bx) (w0:World) :
  Calls Tryz.prog 63 #[a.v,b.v] w0 fun e W=>e = .returned (a.join b).v/\Below w0.heap.size w0 W:=by
 have H1:Hid _:=fun w'=>lesser_any a.lo b.lo w'
 have H2:Hid _:=fun w'=>greater_any a.hi b.hi w'
 unfold Bx.join Bx.v
 dsimp only
 generalize a.lo.lesser b.lo = l at *
 generalize a.hi.greater b.hi = g at *
 obtain ⟨lo0,lo1,lo2⟩:=l
 obtain ⟨hi0,hi1,hi2⟩:=g
 obtain ⟨⟨x,y,z⟩,⟨xh,yh,zh⟩⟩:=a
 obtain ⟨⟨x',y',z'⟩,⟨xh',yh',zh'⟩⟩:=b
 unfold Pt.v at H1 H2
 dsimp only at *
 go_enter Tryz.func63,Tryz.ntmps63
 go_upto_region 1 with fail
 obtain ⟨V,hV⟩:∃ V:World,V = (((w0.alloc (.cells #[.int .i64 x,.int .i64 y,.int .i64 z,.int .i64 xh,.int .i64 yh,.int .i64 zh] 73)).alloc (.cells #[.int .i64 x',.int .i64 y',.int .i64 z',.int .i64 xh',.int .i64 yh',.int .i64 zh'] 73)).alloc (.cells #[.int .i64 0,.int .i64 0,.int .i64 0,.int .i64 0,.int .i64 0,.int .i64 0] 73)):=⟨_,rfl⟩
 have hD:Hid (Below w0.heap.size w0 V):=by rw [hV];exact b_step (b_step (n_after w0 _) (n_after _ _)) (n_after _ _)
 have C1:Hid (Cells V w0.heap.size [.int .i64 x,.int .i64 y,.int .i64 z,.int .i64 xh,.int .i64 yh,.int .i64 zh]):=by rw [hV];exact Cells.step (Cells.new w0 [.int .i64 x,.int .i64 y,.int .i64 z,.int .i64 xh,.int .i64 yh,.int .i64 zh] _) (b_step (n_after _ _) (n_after _ _))
 have C2:Hid (Cells V (w0.heap.size + 1) [.int .i64 x',.int .i64 y',.int .i64 z',.int .i64 xh',.int .i64 yh',.int .i64 zh']):=by rw [hV];have:=Cells.step (Cells.new (w0.alloc (.cells #[.int .i64 x,.int .i64 y,.int .i64 z,.int .i64 xh,.int .i64 yh,.int .i64 zh] 73)) [.int .i64 x',.int .i64 y',.int .i64 z',.int .i64 xh',.int .i64 yh',.int .i64 zh'] 73) (n_after _ (.cells #[.int .i64 0,.int .i64 0,.int .i64 0,.int .i64 0,.int .i64 0,.int .i64 0] 73));rwa [World.size_alloc] at this
 have C3:Hid (Cells V (w0.heap.size + 2) [.int .i64 0,.int .i64 0,.int .i64 0,.int .i64 0,.int .i64 0,.int .i64 0]):=by rw [hV];have:=Cells.new ((w0.alloc (.cells #[.int .i64 x,.int .i64 y,.int .i64 z,.int .i64 xh,.int .i64 yh,.int .i64 zh] 73)).alloc (.cells #[.int .i64 x',.int .i64 y',.int .i64 z',.int .i64 xh',.int .i64 yh',.int .i64 zh'] 73)) [.int .i64 0,.int .i64 0,.int .i64 0,.int .i64 0,.int .i64 0,.int .i64 0] 73;rwa [World.size_alloc,World.size_alloc] at this
 rw [<- hV]
 clear hV
 obtain ⟨ba,hba⟩:∃ b,b = w0.heap.size:=⟨_,rfl⟩
 obtain ⟨bb,hbb⟩:∃ b,b = w0.heap.size + 1:=⟨_,rfl⟩
 obtain ⟨br,hbr⟩:∃ b,b = w0.heap.size + 2:=⟨_,rfl⟩
 have hbl:w0.heap.size <= br:=by omega
 rw [show w0.heap.size + 1 + 1 = br by omega]
 rw [<- hbb] at C2 ⊢
 rw [<- hbr] at C3
 rw [<- hba] at C1 ⊢
 clear hbb hba hbr
 have s0:=(C1.out 0 _ rfl).1
 have s1:=(C1.out 1 _ rfl).1
 have s2:=(C1.out 2 _ rfl).1
 have s3:=(C1.out 3 _ rfl).1
 have s4:=(C1.out 4 _ rfl).1
 have s5:=(C1.out 5 _ rfl).1
 have t0:=(C2.out 0 _ rfl).1
 have t1:=(C2.out 1 _ rfl).1
 have t2:=(C2.out 2 _ rfl).1
 have t3:=(C2.out 3 _ rfl).1
 have t4:=(C2.out 4 _ rfl).1
 have t5:=(C2.out 5 _ rfl).1
 have u0_:=(C3.out 0 _ rfl).1
 have v0_:=(C3.out 0 _ rfl).2
 have u1_:=(C3.out 1 _ rfl).1
 have v1_:=(C3.out 1 _ rfl).2
 have u2_:=(C3.out 2 _ rfl).1
 have v2_:=(C3.out 2 _ rfl).2
 have u3_:=(C3.out 3 _ rfl).1
 have v3_:=(C3.out 3 _ rfl).2
 have u4_:=(C3.out 4 _ rfl).1
 have v4_:=(C3.out 4 _ rfl).2
 have u5_:=(C3.out 5 _ rfl).1
 have v5_:=(C3.out 5 _ rfl).2
 refine RV.rs [.some (.pointer (some ⟨ba,0,none⟩)),.some (.agg #[.int .i64 x,.int .i64 y,.int .i64 z]),.some (.pointer (some ⟨bb,0,none⟩)),.some (.agg #[.int .i64 x',.int .i64 y',.int .i64 z']),.some (.agg #[.int .i64 lo0,.int .i64 lo1,.int .i64 lo2]),.some (.pointer (some ⟨ba,3,none⟩)),.some (.agg #[.int .i64 xh,.int .i64 yh,.int .i64 zh]),.some (.pointer (some ⟨bb,3,none⟩)),.some (.agg #[.int .i64 xh',.int .i64 yh',.int .i64 zh']),.some (.agg #[.int .i64 hi0,.int .i64 hi1,.int .i64 hi2]),.some (.agg #[.int .i64 lo0,.int .i64 lo1,.int .i64 lo2,.int .i64 hi0,.int .i64 hi1,.int .i64 hi2]),none] [6,7,8,9,10,11,12,13,14,15,16,0] [(2,.pointer (some ⟨ba,0,none⟩)),(3,.pointer (some ⟨bb,0,none⟩)),(4,.pointer (some ⟨br,0,none⟩))] (fun γ L w9=>(L 11 = false/\Below V.heap.size V w9) \/ (L 11 = true/\∃ w,Below V.heap.size V w/\w9 = ((((((w.setCell ⟨br,0,none⟩ (.int .i64 lo0)).setCell ⟨br,1,none⟩ (.int .i64 lo1)).setCell ⟨br,2,none⟩ (.int .i64 lo2)).setCell ⟨br,3,none⟩ (.int .i64 hi0)).setCell ⟨br,4,none⟩ (.int .i64 hi1)).setCell ⟨br,5,none⟩ (.int .i64 hi2)))) ⟨rfl,rfl,rfl,trivial⟩ ?_ ?_ ?_
 ·exact Or.inl ⟨rfl,(Below.refl _ V).drew⟩
 ·intro D WA Z hD hWA hZ T
  simp only [RV.Outs,RV.Slots,Nat.reduceAdd] at T
  iterate 4 first
   | (refine RV.cc _ (RV.pu T (fun γ v L w hl h=>by rw [RV.mn (L:=L) (i:=_) (j:=11) (by decide)];exact h) (fun γ L a w hH hl h9 k9=>⟨_,?_,rfl⟩)) ?_;· simp [execOp,go_sem,h9])
   | (refine RV.cc _ (RV.pu T (fun γ v L w hl h=>by rw [RV.mn (L:=L) (i:=_) (j:=11) (by decide)];exact h) (fun γ L a w hH hl h9 k9=>⟨_,?_,rfl⟩)) ?_;· have hB9:=early9 hH.glob (RV.ny hH (RV.wt (j:=11) hWA (by kernel_rfl)) hl);have q0:=c_after hB9 s0;have q1:=c_after hB9 s1;have q2:=c_after hB9 s2;have q3:=c_after hB9 t0;have q4:=c_after hB9 t1;have q5:=c_after hB9 t2;simp [Region.binds] at k9;simp [execOp,go_sem,h9,k9,q0,q1,q2,q3,q4,q5])
  refine RV.cc _ (RV.dc (fun γ L a w hH hl hA=>by have h9:=T γ L a w hH;have k9:=hA;simp [Region.binds] at k9;have hB9:=early9 hH.glob (RV.ny hH (RV.wt (j:=11) (i:=4) hWA (by kernel_rfl)) hl);exact ⟨101,#[.agg #[.int .i64 x,.int .i64 y,.int .i64 z],.agg #[.int .i64 x',.int .i64 y',.int .i64 z']],by simp [go_sem,h9,k9],Calls.mono (H1.out w) (by rintro e w2 ⟨rfl,hb⟩;exact ⟨_,rfl,rfl,fun j v _ h=>h.keep _,Or.inl ⟨by rw [RV.mn (L:=L) (i:=4) (j:=11) (by decide)];exact RV.ny hH (RV.wt (j:=11) (i:=4) hWA (by kernel_rfl)) hl,hB9.trans (hb.mono hB9.size)⟩⟩)⟩)) ?_
  iterate 4 first
   | (refine RV.cc _ (RV.pu T (fun γ v L w hl h=>by rw [RV.mn (L:=L) (i:=_) (j:=11) (by decide)];exact h) (fun γ L a w hH hl h9 k9=>⟨_,?_,rfl⟩)) ?_;· simp [execOp,go_sem,h9])
   | (refine RV.cc _ (RV.pu T (fun γ v L w hl h=>by rw [RV.mn (L:=L) (i:=_) (j:=11) (by decide)];exact h) (fun γ L a w hH hl h9 k9=>⟨_,?_,rfl⟩)) ?_;· have hB9:=early9 hH.glob (RV.ny hH (RV.wt (j:=11) hWA (by kernel_rfl)) hl);have q0:=c_after hB9 s3;have q1:=c_after hB9 s4;have q2:=c_after hB9 s5;have q3:=c_after hB9 t3;have q4:=c_after hB9 t4;have q5:=c_after hB9 t5;simp [Region.binds] at k9;simp [execOp,go_sem,h9,k9,q0,q1,q2,q3,q4,q5])
  refine RV.cc _ (RV.dc (fun γ L a w hH hl hA=>by have h9:=T γ L a w hH;have k9:=hA;simp [Region.binds] at k9;have hB9:=early9 hH.glob (RV.ny hH (RV.wt (j:=11) (i:=9) hWA (by kernel_rfl)) hl);exact ⟨102,#[.agg #[.int .i64 xh,.int .i64 yh,.int .i64 zh],.agg #[.int .i64 xh',.int .i64 yh',.int .i64 zh']],by simp [go_sem,h9,k9],Calls.mono (H2.out w) (by rintro e w2 ⟨rfl,hb⟩;exact ⟨_,rfl,rfl,fun j v _ h=>h.keep _,Or.inl ⟨by rw [RV.mn (L:=L) (i:=9) (j:=11) (by decide)];exact RV.ny hH (RV.wt (j:=11) (i:=9) hWA (by kernel_rfl)) hl,hB9.trans (hb.mono hB9.size)⟩⟩)⟩)) ?_
  (refine RV.cc _ (RV.pu T (fun γ v L w hl h=>by rw [RV.mn (L:=L) (i:=_) (j:=11) (by decide)];exact h) (fun γ L a w hH hl h9 k9=>⟨_,?_,rfl⟩)) ?_;· simp [Region.binds] at k9;simp [execOp,go_sem,h9,k9])
  refine RV.cc _ (RV.does_store (fun γ L a w hH hl hA=>by have h9:=T γ L a w hH;have k9:=hA;simp [Region.binds] at k9;have hB9:=early9 hH.glob hl;have z0:=c_after hB9 u0_;have zf0:=f_after hB9 u0_ v0_;have z1:=c_after hB9 u1_;have zf1:=f_after hB9 u1_ v1_;have z2:=c_after hB9 u2_;have zf2:=f_after hB9 u2_ v2_;have z3:=c_after hB9 u3_;have zf3:=f_after hB9 u3_ v3_;have z4:=c_after hB9 u4_;have zf4:=f_after hB9 u4_ v4_;have z5:=c_after hB9 u5_;have zf5:=f_after hB9 u5_ v5_;exact ⟨((((((w.setCell ⟨br,0,none⟩ (.int .i64 lo0)).setCell ⟨br,1,none⟩ (.int .i64 lo1)).setCell ⟨br,2,none⟩ (.int .i64 lo2)).setCell ⟨br,3,none⟩ (.int .i64 hi0)).setCell ⟨br,4,none⟩ (.int .i64 hi1)).setCell ⟨br,5,none⟩ (.int .i64 hi2)),by simp [execOp,go_sem,z0,zf0,z1,zf1,z2,zf2,z3,zf3,z4,zf4,z5,zf5,h9,k9],trivial,fun j v _ h=>h.keep _,Or.inr ⟨RV.more_self,w,hB9,rfl⟩⟩)) ?_
  exact RV.AllDo.nil
 ·intro γ w5 L9 hL hI9 hG9
  obtain ⟨w8,hb8,rfl⟩:=late9 hG9 (hL 11 (by decide))
  clear hL hI9 hG9
  simp only [RV.putL,Act.put,List.setIfInBounds_toArray,List.set_cons_zero,List.set_cons_succ]
  have E:=Cells.set6 (Cells.step C3.out hb8) (.int .i64 lo0) (.int .i64 lo1) (.int .i64 lo2) (.int .i64 hi0) (.int .i64 hi1) (.int .i64 hi2)
  have r0:=(E 0 _ rfl).1
  have r1:=(E 1 _ rfl).1
  have r2:=(E 2 _ rfl).1
  have r3:=(E 3 _ rfl).1
  have r4:=(E 4 _ rfl).1
  have r5:=(E 5 _ rfl).1
  go_wp2_with (fail)
  refine bodyPost_ret (v:=.agg #[.int .i64 lo0,.int .i64 lo1,.int .i64 lo2,.int .i64 hi0,.int .i64 hi1,.int .i64 hi2]) (by simp [results,Tryz.results63,go_sem,r0,r1,r2,r3,r4,r5]) rfl ⟨rfl,?_⟩
  exact ((((((b_step hD.out hb8).setCell hbl _).setCell hbl _).setCell hbl _).setCell hbl _).setCell hbl _).setCell hbl _
theorem grown_any (a:Bx) (n:Int) (w0:World) :
  Calls Tryz.prog 64 #[a.v,.int .i64 n] w0 fun e W=>e = .returned (a.grown n).v/\Below w0.heap.size w0 W:=by
 obtain ⟨nn,hnn⟩:∃ nn,IntKind.i64.wrap (-n) = nn:=⟨_,rfl⟩
 have K1:Hid _:=fun w'=>pthrice_any nn w'
 have K2:Hid _:=fun w'=>pthrice_any n w'
 have H1:Hid _:=fun w'=>pplus_any a.lo ⟨nn,nn,nn⟩ w'
 have H2:Hid _:=fun w'=>pplus_any a.hi ⟨n,n,n⟩ w'
 unfold Bx.grown Bx.v
 dsimp only
 rw [hnn]
 generalize a.lo.plus ⟨nn,nn,nn⟩ = l at *
 generalize a.hi.plus ⟨n,n,n⟩ = g at *
 obtain ⟨lo0,lo1,lo2⟩:=l
 obtain ⟨hi0,hi1,hi2⟩:=g
 obtain ⟨⟨x,y,z⟩,⟨xh,yh,zh⟩⟩:=a
 unfold Pt.v at H1 H2 K1 K2
 dsimp only at *
 go_enter Tryz.func64,Tryz.ntmps64
 go_upto_region 1 with fail
 obtain ⟨V,hV⟩:∃ V:World,V = ((w0.alloc (.cells #[.int .i64 x,.int .i64 y,.int .i64 z,.int .i64 xh,.int .i64 yh,.int .i64 zh] 73)).alloc (.cells #[.int .i64 0,.int .i64 0,.int .i64 0,.int .i64 0,.int .i64 0,.int .i64 0] 73)):=⟨_,rfl⟩
 have hD:Hid (Below w0.heap.size w0 V):=by rw [hV];exact b_step (n_after w0 _) (n_after _ _)
 have C1:Hid (Cells V w0.heap.size [.int .i64 x,.int .i64 y,.int .i64 z,.int .i64 xh,.int .i64 yh,.int .i64 zh]):=by rw [hV];exact Cells.step (Cells.new w0 [.int .i64 x,.int .i64 y,.int .i64 z,.int .i64 xh,.int .i64 yh,.int .i64 zh] _) (n_after _ _)
 have C3:Hid (Cells V (w0.heap.size + 1) [.int .i64 0,.int .i64 0,.int .i64 0,.int .i64 0,.int .i64 0,.int .i64 0]):=by rw [hV];have:=Cells.new (w0.alloc (.cells #[.int .i64 x,.int .i64 y,.int .i64 z,.int .i64 xh,.int .i64 yh,.int .i64 zh] 73)) [.int .i64 0,.int .i64 0,.int .i64 0,.int .i64 0,.int .i64 0,.int .i64 0] 73;rwa [World.size_alloc] at this
 rw [<- hV]
 clear hV
 obtain ⟨ba,hba⟩:∃ b,b = w0.heap.size:=⟨_,rfl⟩
 obtain ⟨br,hbr⟩:∃ b,b = w0.heap.size + 1:=⟨_,rfl⟩
 have hbl:w0.heap.size <= br:=by omega
 rw [<- hbr] at C3 ⊢
 rw [<- hba] at C1 ⊢
 clear hba hbr
 have s0:=(C1.out 0 _ rfl).1
 have s1:=(C1.out 1 _ rfl).1
 have s2:=(C1.out 2 _ rfl).1
 have s3:=(C1.out 3 _ rfl).1
 have s4:=(C1.out 4 _ rfl).1
 have s5:=(C1.out 5 _ rfl).1
 have u0_:=(C3.out 0 _ rfl).1
 have v0_:=(C3.out 0 _ rfl).2
 have u1_:=(C3.out 1 _ rfl).1
 have v1_:=(C3.out 1 _ rfl).2
 have u2_:=(C3.out 2 _ rfl).1
 have v2_:=(C3.out 2 _ rfl).2
 have u3_:=(C3.out 3 _ rfl).1
 have v3_:=(C3.out 3 _ rfl).2
 have u4_:=(C3.out 4 _ rfl).1
 have v4_:=(C3.out 4 _ rfl).2
 have u5_:=(C3.out 5 _ rfl).1
 have v5_:=(C3.out 5 _ rfl).2
 refine RV.rs [.some (.pointer (some ⟨ba,0,none⟩)),.some (.agg #[.int .i64 x,.int .i64 y,.int .i64 z]),.some (.int .i64 n),.some (.int .i64 nn),.some (.agg #[.int .i64 nn,.int .i64 nn,.int .i64 nn]),.some (.agg #[.int .i64 lo0,.int .i64 lo1,.int .i64 lo2]),.some (.pointer (some ⟨ba,3,none⟩)),.some (.agg #[.int .i64 xh,.int .i64 yh,.int .i64 zh]),.some (.int .i64 n),.some (.agg #[.int .i64 n,.int .i64 n,.int .i64 n]),.some (.agg #[.int .i64 hi0,.int .i64 hi1,.int .i64 hi2]),.some (.agg #[.int .i64 lo0,.int .i64 lo1,.int .i64 lo2,.int .i64 hi0,.int .i64 hi1,.int .i64 hi2]),none] [6,7,8,9,10,11,12,13,14,15,16,17,0] [(1,.int .i64 n),(2,.pointer (some ⟨ba,0,none⟩)),(4,.pointer (some ⟨br,0,none⟩))] (fun γ L w9=>(L 12 = false/\Below V.heap.size V w9) \/ (L 12 = true/\∃ w,Below V.heap.size V w/\w9 = ((((((w.setCell ⟨br,0,none⟩ (.int .i64 lo0)).setCell ⟨br,1,none⟩ (.int .i64 lo1)).setCell ⟨br,2,none⟩ (.int .i64 lo2)).setCell ⟨br,3,none⟩ (.int .i64 hi0)).setCell ⟨br,4,none⟩ (.int .i64 hi1)).setCell ⟨br,5,none⟩ (.int .i64 hi2)))) ⟨rfl,rfl,rfl,trivial⟩ ?_ ?_ ?_
 ·exact Or.inl ⟨rfl,(Below.refl _ V).drew⟩
 ·intro D WA Z hD hWA hZ T
  simp only [RV.Outs,RV.Slots,Nat.reduceAdd] at T
  iterate 4 first
   | (refine RV.cc _ (RV.pu T (fun γ v L w hl h=>by rw [RV.mn (L:=L) (i:=_) (j:=12) (by decide)];exact h) (fun γ L a w hH hl h9 k9=>⟨_,?_,rfl⟩)) ?_;· simp [execOp,go_sem,h9])
   | (refine RV.cc _ (RV.pu T (fun γ v L w hl h=>by rw [RV.mn (L:=L) (i:=_) (j:=12) (by decide)];exact h) (fun γ L a w hH hl h9 k9=>⟨_,?_,rfl⟩)) ?_;· simp [Region.binds] at k9;simp [execOp,go_sem,h9,k9,hnn])
   | (refine RV.cc _ (RV.pu T (fun γ v L w hl h=>by rw [RV.mn (L:=L) (i:=_) (j:=12) (by decide)];exact h) (fun γ L a w hH hl h9 k9=>⟨_,?_,rfl⟩)) ?_;· have hB9:=early9 hH.glob (RV.ny hH (RV.wt (j:=12) hWA (by kernel_rfl)) hl);have q0:=c_after hB9 s0;have q1:=c_after hB9 s1;have q2:=c_after hB9 s2;simp [Region.binds] at k9;simp [execOp,go_sem,h9,k9,q0,q1,q2])
  refine RV.cc _ (RV.dc (fun γ L a w hH hl hA=>by have h9:=T γ L a w hH;have k9:=hA;simp [Region.binds] at k9;have hB9:=early9 hH.glob (RV.ny hH (RV.wt (j:=12) (i:=4) hWA (by kernel_rfl)) hl);exact ⟨85,#[.int .i64 nn],by simp [go_sem,h9,k9],Calls.mono (K1.out w) (by rintro e w2 ⟨rfl,hb⟩;exact ⟨_,rfl,rfl,fun j v _ h=>h.keep _,Or.inl ⟨by rw [RV.mn (L:=L) (i:=4) (j:=12) (by decide)];exact RV.ny hH (RV.wt (j:=12) (i:=4) hWA (by kernel_rfl)) hl,hB9.trans (hb.mono hB9.size)⟩⟩)⟩)) ?_
  refine RV.cc _ (RV.dc (fun γ L a w hH hl hA=>by have h9:=T γ L a w hH;have k9:=hA;simp [Region.binds] at k9;have hB9:=early9 hH.glob (RV.ny hH (RV.wt (j:=12) (i:=5) hWA (by kernel_rfl)) hl);exact ⟨59,#[.agg #[.int .i64 x,.int .i64 y,.int .i64 z],.agg #[.int .i64 nn,.int .i64 nn,.int .i64 nn]],by simp [go_sem,h9,k9],Calls.mono (H1.out w) (by rintro e w2 ⟨rfl,hb⟩;exact ⟨_,rfl,rfl,fun j v _ h=>h.keep _,Or.inl ⟨by rw [RV.mn (L:=L) (i:=5) (j:=12) (by decide)];exact RV.ny hH (RV.wt (j:=12) (i:=5) hWA (by kernel_rfl)) hl,hB9.trans (hb.mono hB9.size)⟩⟩)⟩)) ?_
  iterate 3 first
   | (refine RV.cc _ (RV.pu T (fun γ v L w hl h=>by rw [RV.mn (L:=L) (i:=_) (j:=12) (by decide)];exact h) (fun γ L a w hH hl h9 k9=>⟨_,?_,rfl⟩)) ?_;· simp [execOp,go_sem,h9])
   | (refine RV.cc _ (RV.pu T (fun γ v L w hl h=>by rw [RV.mn (L:=L) (i:=_) (j:=12) (by decide)];exact h) (fun γ L a w hH hl h9 k9=>⟨_,?_,rfl⟩)) ?_;· have hB9:=early9 hH.glob (RV.ny hH (RV.wt (j:=12) hWA (by kernel_rfl)) hl);have q0:=c_after hB9 s3;have q1:=c_after hB9 s4;have q2:=c_after hB9 s5;simp [Region.binds] at k9;simp [execOp,go_sem,h9,k9,q0,q1,q2])
  refine RV.cc _ (RV.dc (fun γ L a w hH hl hA=>by have h9:=T γ L a w hH;have k9:=hA;simp [Region.binds] at k9;have hB9:=early9 hH.glob (RV.ny hH (RV.wt (j:=12) (i:=9) hWA (by kernel_rfl)) hl);exact ⟨85,#[.int .i64 n],by simp [go_sem,h9,k9],Calls.mono (K2.out w) (by rintro e w2 ⟨rfl,hb⟩;exact ⟨_,rfl,rfl,fun j v _ h=>h.keep _,Or.inl ⟨by rw [RV.mn (L:=L) (i:=9) (j:=12) (by decide)];exact RV.ny hH (RV.wt (j:=12) (i:=9) hWA (by kernel_rfl)) hl,hB9.trans (hb.mono hB9.size)⟩⟩)⟩)) ?_
  refine RV.cc _ (RV.dc (fun γ L a w hH hl hA=>by have h9:=T γ L a w hH;have k9:=hA;simp [Region.binds] at k9;have hB9:=early9 hH.glob (RV.ny hH (RV.wt (j:=12) (i:=10) hWA (by kernel_rfl)) hl);exact ⟨59,#[.agg #[.int .i64 xh,.int .i64 yh,.int .i64 zh],.agg #[.int .i64 n,.int .i64 n,.int .i64 n]],by simp [go_sem,h9,k9],Calls.mono (H2.out w) (by rintro e w2 ⟨rfl,hb⟩;exact ⟨_,rfl,rfl,fun j v _ h=>h.keep _,Or.inl ⟨by rw [RV.mn (L:=L) (i:=10) (j:=12) (by decide)];exact RV.ny hH (RV.wt (j:=12) (i:=10) hWA (by kernel_rfl)) hl,hB9.trans (hb.mono hB9.size)⟩⟩)⟩)) ?_
  (refine RV.cc _ (RV.pu T (fun γ v L w hl h=>by rw [RV.mn (L:=L) (i:=_) (j:=12) (by decide)];exact h) (fun γ L a w hH hl h9 k9=>⟨_,?_,rfl⟩)) ?_;· simp [Region.binds] at k9;simp [execOp,go_sem,h9,k9])
  refine RV.cc _ (RV.does_store (fun γ L a w hH hl hA=>by have h9:=T γ L a w hH;have k9:=hA;simp [Region.binds] at k9;have hB9:=early9 hH.glob hl;have z0:=c_after hB9 u0_;have zf0:=f_after hB9 u0_ v0_;have z1:=c_after hB9 u1_;have zf1:=f_after hB9 u1_ v1_;have z2:=c_after hB9 u2_;have zf2:=f_after hB9 u2_ v2_;have z3:=c_after hB9 u3_;have zf3:=f_after hB9 u3_ v3_;have z4:=c_after hB9 u4_;have zf4:=f_after hB9 u4_ v4_;have z5:=c_after hB9 u5_;have zf5:=f_after hB9 u5_ v5_;exact ⟨((((((w.setCell ⟨br,0,none⟩ (.int .i64 lo0)).setCell ⟨br,1,none⟩ (.int .i64 lo1)).setCell ⟨br,2,none⟩ (.int .i64 lo2)).setCell ⟨br,3,none⟩ (.int .i64 hi0)).setCell ⟨br,4,none⟩ (.int .i64 hi1)).setCell ⟨br,5,none⟩ (.int .i64 hi2)),by simp [execOp,go_sem,z0,zf0,z1,zf1,z2,zf2,z3,zf3,z4,zf4,z5,zf5,h9,k9],trivial,fun j v _ h=>h.keep _,Or.inr ⟨RV.more_self,w,hB9,rfl⟩⟩)) ?_
  exact RV.AllDo.nil
 ·intro γ w5 L9 hL hI9 hG9
  obtain ⟨w8,hb8,rfl⟩:=late9 hG9 (hL 12 (by decide))
  clear hL hI9 hG9
  simp only [RV.putL,Act.put,List.setIfInBounds_toArray,List.set_cons_zero,List.set_cons_succ]
  have E:=Cells.set6 (Cells.step C3.out hb8) (.int .i64 lo0) (.int .i64 lo1) (.int .i64 lo2) (.int .i64 hi0) (.int .i64 hi1) (.int .i64 hi2)
  have r0:=(E 0 _ rfl).1
  have r1:=(E 1 _ rfl).1
  have r2:=(E 2 _ rfl).1
  have r3:=(E 3 _ rfl).1
  have r4:=(E 4 _ rfl).1
  have r5:=(E 5 _ rfl).1
  go_wp2_with (fail)
  refine bodyPost_ret (v:=.agg #[.int .i64 lo0,.int .i64 lo1,.int .i64 lo2,.int .i64 hi0,.int .i64 hi1,.int .i64 hi2]) (by simp [results,Tryz.results64,go_sem,r0,r1,r2,r3,r4,r5]) rfl ⟨rfl,?_⟩
  exact ((((((b_step hD.out hb8).setCell hbl _).setCell hbl _).setCell hbl _).setCell hbl _).setCell hbl _).setCell hbl _
end
section
open Go.RowKit Go.Shelf
def Pt.win (p:Pt) (m:Int):Bool:=p.le ⟨m,m,m⟩ && Pt.le ⟨IntKind.i64.wrap (-m),IntKind.i64.wrap (-m),IntKind.i64.wrap (-m)⟩ p
theorem pwithin_any (p:Pt) (m:Int) (w0:World) :
  Calls Tryz.prog 44 #[p.v,.int .i64 m] w0 fun e W=>e = .returned (.bool (p.win m))/\Below w0.heap.size w0 W:=by
 obtain ⟨mm,hmm⟩:∃ mm,IntKind.i64.wrap (-m) = mm:=⟨_,rfl⟩
 have K1:Hid _:=fun w'=>pthrice_any m w'
 have K2:Hid _:=fun w'=>pthrice_any mm w'
 have H1:Hid _:=fun w'=>noneAbove_any p ⟨m,m,m⟩ w'
 have H2:Hid _:=fun w'=>noneAbove_any ⟨mm,mm,mm⟩ p w'
 have HW:Hid (p.win m = (p.le ⟨m,m,m⟩ && Pt.le ⟨mm,mm,mm⟩ p)):=by show _ = _;unfold Pt.win;rw [hmm]
 obtain ⟨R9,hR9⟩:∃ R9,p.win m = R9:=⟨_,rfl⟩
 rw [hR9] at HW ⊢
 clear hR9
 generalize p.le ⟨m,m,m⟩ = f1 at *
 generalize Pt.le ⟨mm,mm,mm⟩ p = f2 at *
 obtain ⟨x,y,z⟩:=p
 unfold Pt.v at *
 dsimp only at *
 go_enter Tryz.func44,Tryz.ntmps44
 go_upto_region 1 with fail
 obtain ⟨V,hV⟩:∃ V:World,V = w0.alloc (.cells #[.int .i64 x,.int .i64 y,.int .i64 z] 23):=⟨_,rfl⟩
 obtain ⟨qa,hqa⟩:∃ b,b = w0.heap.size:=⟨_,rfl⟩
 have hD:Hid (Below w0.heap.size w0 V):=by rw [hV];exact n_after _ _
 have C1:Cells V qa [.int .i64 x,.int .i64 y,.int .i64 z]:=by rw [hV,hqa];exact Cells.new w0 [.int .i64 x,.int .i64 y,.int .i64 z] _
 rw [<- hV,<- hqa]
 clear hV hqa
 have s0_:=(C1 0 _ rfl).1
 have s1_:=(C1 1 _ rfl).1
 have s2_:=(C1 2 _ rfl).1
 cases f1 with
 | false =>
  have e:R9 = false:=HW.out
  subst e
  refine RV.rs [.some (.agg #[.int .i64 x,.int .i64 y,.int .i64 z]),.some (.int .i64 m),.some (.agg #[.int .i64 m,.int .i64 m,.int .i64 m]),.some (.bool (false)),.some (.bool (false)),.some (undef),.some (undef),.some (undef),.some (undef),.some (undef),.some (.bool (false)),.some (.bool (false))] [6,7,8,9,10,11,12,13,14,15,16,5] [(1,.int .i64 m),(2,.pointer (some ⟨qa,0,none⟩))] (fun γ L w9=>Below V.heap.size V w9) ⟨rfl,rfl,trivial⟩ ?_ ?_ ?_
  ·exact (Below.refl _ V).drew
  ·intro D WA Z hD hWA hZ T
   simp only [RV.Outs,RV.Slots,Nat.reduceAdd] at T
   iterate 2 first
    | (refine RV.cc _ (RV.pu T (fun γ v L w hl h=>h) (fun γ L a w hH hl h9 k9=>⟨_,?_,rfl⟩)) ?_;· simp [execOp,go_sem,h9])
    | (refine RV.cc _ (RV.pu T (fun γ v L w hl h=>h) (fun γ L a w hH hl h9 k9=>⟨_,?_,rfl⟩)) ?_;· have hB9:=hH.glob;have q0:=c_after hB9 s0_;have q1:=c_after hB9 s1_;have q2:=c_after hB9 s2_;simp [execOp,go_sem,h9,q0,q1,q2])
   refine RV.cc _ (RV.dc (fun γ L a w hH hl hA=>by have h9:=T γ L a w hH;have k9:=hA;simp [Region.binds] at k9;have hB9:=hH.glob;exact ⟨85,#[.int .i64 m],by simp [go_sem,h9,k9],Calls.mono (K1.out w) (by rintro e w2 ⟨rfl,hb⟩;exact ⟨_,rfl,rfl,fun j v _ h=>h.keep _,hB9.trans (hb.mono hB9.size)⟩)⟩)) ?_
   refine RV.cc _ (RV.dc (fun γ L a w hH hl hA=>by have h9:=T γ L a w hH;have k9:=hA;simp [Region.binds] at k9;have hB9:=hH.glob;exact ⟨84,#[.agg #[.int .i64 x,.int .i64 y,.int .i64 z],.agg #[.int .i64 m,.int .i64 m,.int .i64 m]],by simp [go_sem,h9,k9],Calls.mono (H1.out w) (by rintro e w2 ⟨rfl,hb⟩;exact ⟨_,rfl,rfl,fun j v _ h=>h.keep _,hB9.trans (hb.mono hB9.size)⟩)⟩)) ?_
   (refine RV.cc _ (RV.pu T (fun γ v L w hl h=>h) (fun γ L a w hH hl h9 k9=>⟨_,?_,rfl⟩)) ?_;· simp [Region.binds] at k9;simp [execOp,go_sem,h9,k9])
   refine RV.cc _ (RV.does_skip rfl (by rw [<- hD];rfl) (fun v w h=>h) (by simp) (fun w=>rfl) (fun γ v L w hl h=>h)) ?_
   refine RV.cc _ (RV.does_skip rfl (by rw [<- hD];rfl) (fun v w h=>h) (by simp) (fun w=>rfl) (fun γ v L w hl h=>h)) ?_
   refine RV.cc _ (RV.does_skip rfl (by rw [<- hD];rfl) (fun v w h=>h) (by simp) (fun w=>rfl) (fun γ v L w hl h=>h)) ?_
   refine RV.cc _ (RV.does_skip rfl (by rw [<- hD];rfl) (fun v w h=>h) (by simp) (fun w=>rfl) (fun γ v L w hl h=>h)) ?_
   refine RV.cc _ (RV.does_skip rfl (by rw [<- hD];rfl) (fun v w h=>h) (by simp) (fun w=>rfl) (fun γ v L w hl h=>h)) ?_
   iterate 2 (refine RV.cc _ (RV.pu T (fun γ v L w hl h=>h) (fun γ L a w hH hl h9 k9=>⟨_,?_,rfl⟩)) ?_;· simp [Region.binds] at k9;simp [execOp,go_sem,h9,k9])
   exact RV.AllDo.nil
  ·intro γ w5 L9 hL hI9 hG9
   have hb8:=hG9
   clear hL hI9 hG9
   simp only [RV.putL,Act.put,List.setIfInBounds_toArray,List.set_cons_zero,List.set_cons_succ]
   have hE:Hid _:=b_step hD.out hb8
   go_wp2_with (fail)
   go_ret
   exact ⟨rfl,hE.out⟩
 | true =>
  have e:R9 = f2:=HW.out
  subst e
  refine RV.rs [.some (.agg #[.int .i64 x,.int .i64 y,.int .i64 z]),.some (.int .i64 m),.some (.agg #[.int .i64 m,.int .i64 m,.int .i64 m]),.some (.bool (true)),.some (.bool (true)),.some (.int .i64 m),.some (.int .i64 mm),.some (.agg #[.int .i64 mm,.int .i64 mm,.int .i64 mm]),.some (.agg #[.int .i64 x,.int .i64 y,.int .i64 z]),.some (.bool (R9)),.some (.bool (R9)),.some (.bool (R9))] [6,7,8,9,10,11,12,13,14,15,16,5] [(1,.int .i64 m),(2,.pointer (some ⟨qa,0,none⟩))] (fun γ L w9=>Below V.heap.size V w9) ⟨rfl,rfl,trivial⟩ ?_ ?_ ?_
  ·exact (Below.refl _ V).drew
  ·intro D WA Z hD hWA hZ T
   simp only [RV.Outs,RV.Slots,Nat.reduceAdd] at T
   iterate 2 first
    | (refine RV.cc _ (RV.pu T (fun γ v L w hl h=>h) (fun γ L a w hH hl h9 k9=>⟨_,?_,rfl⟩)) ?_;· simp [execOp,go_sem,h9])
    | (refine RV.cc _ (RV.pu T (fun γ v L w hl h=>h) (fun γ L a w hH hl h9 k9=>⟨_,?_,rfl⟩)) ?_;· have hB9:=hH.glob;have q0:=c_after hB9 s0_;have q1:=c_after hB9 s1_;have q2:=c_after hB9 s2_;simp [execOp,go_sem,h9,q0,q1,q2])
   refine RV.cc _ (RV.dc (fun γ L a w hH hl hA=>by have h9:=T γ L a w hH;have k9:=hA;simp [Region.binds] at k9;have hB9:=hH.glob;exact ⟨85,#[.int .i64 m],by simp [go_sem,h9,k9],Calls.mono (K1.out w) (by rintro e w2 ⟨rfl,hb⟩;exact ⟨_,rfl,rfl,fun j v _ h=>h.keep _,hB9.trans (hb.mono hB9.size)⟩)⟩)) ?_
   refine RV.cc _ (RV.dc (fun γ L a w hH hl hA=>by have h9:=T γ L a w hH;have k9:=hA;simp [Region.binds] at k9;have hB9:=hH.glob;exact ⟨84,#[.agg #[.int .i64 x,.int .i64 y,.int .i64 z],.agg #[.int .i64 m,.int .i64 m,.int .i64 m]],by simp [go_sem,h9,k9],Calls.mono (H1.out w) (by rintro e w2 ⟨rfl,hb⟩;exact ⟨_,rfl,rfl,fun j v _ h=>h.keep _,hB9.trans (hb.mono hB9.size)⟩)⟩)) ?_
   iterate 3 first
    | (refine RV.cc _ (RV.dg rfl (by rw [<- hD];rfl) (fun v w h=>h) (by simp) (RV.pu T (fun γ v L w hl h=>h) (fun γ L a w hH hl h9 k9=>⟨_,?_,rfl⟩))) ?_;· simp [execOp,go_sem,h9])
    | (refine RV.cc _ (RV.pu T (fun γ v L w hl h=>h) (fun γ L a w hH hl h9 k9=>⟨_,?_,rfl⟩)) ?_;· simp [Region.binds] at k9;simp [execOp,go_sem,h9,k9])
    | (refine RV.cc _ (RV.dg rfl (by rw [<- hD];rfl) (fun v w h=>h) (by simp) (RV.pu T (fun γ v L w hl h=>h) (fun γ L a w hH hl h9 k9=>⟨_,?_,rfl⟩))) ?_;· simp [Region.binds] at k9;simp [execOp,go_sem,h9,k9,hmm])
   refine RV.cc _ (RV.dg rfl (by rw [<- hD];rfl) (fun v w h=>h) (by simp) (RV.dc (fun γ L a w hH hl hA=>by have h9:=T γ L a w hH;have k9:=hA;simp [Region.binds] at k9;have hB9:=hH.glob;exact ⟨85,#[.int .i64 mm],by simp [go_sem,h9,k9],Calls.mono (K2.out w) (by rintro e w2 ⟨rfl,hb⟩;exact ⟨_,rfl,rfl,fun j v _ h=>h.keep _,hB9.trans (hb.mono hB9.size)⟩)⟩))) ?_
   (refine RV.cc _ (RV.dg rfl (by rw [<- hD];rfl) (fun v w h=>h) (by simp) (RV.pu T (fun γ v L w hl h=>h) (fun γ L a w hH hl h9 k9=>⟨_,?_,rfl⟩))) ?_;· have hB9:=hH.glob;have q0:=c_after hB9 s0_;have q1:=c_after hB9 s1_;have q2:=c_after hB9 s2_;simp [execOp,go_sem,h9,q0,q1,q2])
   refine RV.cc _ (RV.dg rfl (by rw [<- hD];rfl) (fun v w h=>h) (by simp) (RV.dc (fun γ L a w hH hl hA=>by have h9:=T γ L a w hH;have k9:=hA;simp [Region.binds] at k9;have hB9:=hH.glob;exact ⟨84,#[.agg #[.int .i64 mm,.int .i64 mm,.int .i64 mm],.agg #[.int .i64 x,.int .i64 y,.int .i64 z]],by simp [go_sem,h9,k9],Calls.mono (H2.out w) (by rintro e w2 ⟨rfl,hb⟩;exact ⟨_,rfl,rfl,fun j v _ h=>h.keep _,hB9.trans (hb.mono hB9.size)⟩)⟩))) ?_
   iterate 2 (refine RV.cc _ (RV.pu T (fun γ v L w hl h=>h) (fun γ L a w hH hl h9 k9=>⟨_,?_,rfl⟩)) ?_;· simp [Region.binds] at k9;simp [execOp,go_sem,h9,k9])
   exact RV.AllDo.nil
  ·intro γ w5 L9 hL hI9 hG9
   have hb8:=hG9
   clear hL hI9 hG9
   simp only [RV.putL,Act.put,List.setIfInBounds_toArray,List.set_cons_zero,List.set_cons_succ]
   have hE:Hid _:=b_step hD.out hb8
   go_wp2_with (fail)
   go_ret
   exact ⟨rfl,hE.out⟩
end
section
open Go.RowKit Go.Shelf
attribute [local go_sem] Oper.semAt_some
theorem each_in_pt (o:Option Addr) (n c gf:Nat) (bs cs:Array Value) (w:World):Calls Tryz.prog 16 #[.slice o n c,.func (.func gf) bs cs] w fun e w'=>e = .returned (.func (.func 38) #[] #[.pointer (some ⟨w.heap.size,0,none⟩),.pointer (some ⟨w.heap.size + 1,0,none⟩)])/\w' = (w.alloc (.cells #[.slice o n c] 24)).alloc (.cells #[.func (.func gf) bs cs] 56):=by
 go_enter Tryz.func16,Tryz.ntmps16
 go_wp2
 go_ret
 exact ⟨rfl,rfl⟩
theorem each_tells_pt (n:Nat) (Bp Bf:Nat) (Ls:List Pt) (o:Option Addr) (cap gf:Nat) (bs cs:Array Value) (enc:Nat->Value) (row:Option Nat) (S:Nat->Prop) (St:Nat->World->Prop) (w:World)
  (eg:∀ args w,(callFunc gf args).run Tryz.prog w = .ok (.enter gf args) w)
  (hv:Lies w (.slice o Ls.length cap) Ls) (cp:w.cell? ⟨Bp,0,none⟩ = some (.slice o Ls.length cap)) (cf:w.cell? ⟨Bf,0,none⟩ = some (.func (.func gf) bs cs))
  (hSv:∀ q,o = some q->Ls ≠ []->S q.block/\some q.block ≠ row) (hSf:S Bf/\some Bf ≠ row) (hS:∀ b,S b->b < w.heap.size)
  (hst0:∀ W,Below w.heap.size w W->St 0 W) (hstS:∀ k A B,St k A->KeepO S A B->St k B)
  (hb:∀ k V,k < Ls.length->St k V->Calls Tryz.prog gf (bs.push (pt Ls k).v ++ cs) V fun e V'=>e = .returned (enc k)/\V.grownBy V' row/\St (k + 1) V') :
  TellsN n Tryz.prog 38 #[.pointer (some ⟨Bp,0,none⟩),.pointer (some ⟨Bf,0,none⟩)] (fun k=>#[enc k]) row S St Ls.length w:=by
 intro l J Jx W hB hJ hJx hJr hY h0
 have cp':=c_after hB cp
 have cf':=c_after hB cf
 have hv':=hv.below hB
 obtain ⟨o',cap',ee,hlc,hcm,hcell⟩:=hv'.form
 simp only [Value.slice.injEq,true_and] at ee
 obtain ⟨rfl,rfl⟩:=ee
 have HC:Hid _:=hcell
 have st0:=hst0 W hB
 clear hv hv' hcell cp cf hst0
 refine callsIn_of_wp Tryz.func38 rfl trivial ?_ rfl
 simp only [Tryz.ntmps38,List.size_toArray,List.length_cons,List.length_nil,Nat.reduceAdd,Nat.reduceSub,Array.replicate_succ,Array.replicate_zero,List.push_toArray,List.append_toArray,List.nil_append,List.cons_append]
 gi_wp2
 gi_loopw [8] (fun i wr=>∃ k:Nat,k <= Ls.length/\i = .int .i64 k/\Hid (J k wr)/\Hid (St k wr)/\Hid (KeepO (fun b=>S b/\some b ≠ row) W wr))
  (fun i _=>Ls.length - (intOf i).toNat)
 case atStart=>exact ⟨0,Nat.zero_le _,rfl,h0,st0,KeepO.refl _ _⟩
 case round =>
  obtain ⟨k,hk,rfl,hJk,hSk,hKk⟩:=hrel
  by_cases hlt:k < Ls.length
  ·obtain ⟨g,off,rfl,x0,x1,x2⟩:=HC.out k hlt
   have hSg:=hSv _ rfl (fun e=>by rw [e] at hlt;simp at hlt)
   have y0:=hKk.out.cell (q:=⟨g,off + k * 3,none⟩) hSg x0
   have y1:=hKk.out.cell (q:=⟨g,off + k * 3 + 1,none⟩) hSg x1
   have y2:=hKk.out.cell (q:=⟨g,off + k * 3 + 2,none⟩) hSg x2
   have cf2:=hKk.out.cell (q:=⟨Bf,0,none⟩) hSf cf'
   have HA:Hid _:=KeepO.alloc S wr (.cells #[.int .i64 (pt Ls k).x,.int .i64 (pt Ls k).y,.int .i64 (pt Ls k).z] 23)
   have hJ1:Hid (J k (wr.alloc (.cells #[.int .i64 (pt Ls k).x,.int .i64 (pt Ls k).y,.int .i64 (pt Ls k).z] 23))):=hJ.alloc _ hJk.out
   have hbk:Hid (Calls Tryz.prog gf (bs.push (.agg #[.int .i64 (pt Ls k).x,.int .i64 (pt Ls k).y,.int .i64 (pt Ls k).z]) ++ cs) (wr.alloc (.cells #[.int .i64 (pt Ls k).x,.int .i64 (pt Ls k).y,.int .i64 (pt Ls k).z] 23)) fun e V'=>e = .returned (enc k)/\(wr.alloc (.cells #[.int .i64 (pt Ls k).x,.int .i64 (pt Ls k).y,.int .i64 (pt Ls k).z] 23)).grownBy V' row/\St (k + 1) V'):=hb k _ hlt (hstS k _ _ hSk.out HA.out)
   have cf3:=c_after (n_after wr (.cells #[.int .i64 (pt Ls k).x,.int .i64 (pt Ls k).y,.int .i64 (pt Ls k).z] 23)) cf2
   clear x0 x1 x2
   generalize (pt Ls k).x = px at *
   generalize (pt Ls k).y = py at *
   generalize (pt Ls k).z = pz at *
   gi_wp2
   refine ⟨trivial,fun h=>(by cases h),(callsIn_wide.2 hbk.out).mono ?_⟩
   rintro e V1 ⟨rfl,g1,s1⟩
   have hJ2:=hJr k _ _ hJ1.out g1
   obtain ⟨fn,tmps,assign,body,hy,hR⟩:=hY k V1 hlt hJ2
   have k1:Hid (KeepO (fun b=>S b/\some b ≠ row) W V1):=(hKk.out.trans (HA.out.mono (fun b h=>h.1))).trans (KeepO.grown g1 (fun b h=>h.2))
   clear y0 y1 y2 cf2 cf3 hbk HA hJ1
   gi_wp2
   refine ⟨fun h=>(by cases h),hR.mono ?_⟩
   rintro e W3 (⟨rfl,hJ3,hk3,_⟩ | ⟨rfl,hJx3,_⟩)
   ·gi_wp2
    go_roundw
    case rel=>exact ⟨k + 1,by omega,by simp,hJ3,hstS _ _ _ s1 hk3,k1.out.trans (hk3.mono (fun b h=>h.1))⟩
    case measure=>simp [intOf];omega
   ·gi_wp2
    refine bodyPost_ret (results_none rfl _ _ _) rfl ?_
    exact ⟨⟨_,rfl⟩,.inr ⟨k,hlt,hJx3⟩⟩
  ·obtain rfl:k = Ls.length:=by omega
   gi_wp2
   go_end0
   exact ⟨⟨_,rfl⟩,.inl ⟨hJk.out,hSk.out⟩⟩
theorem each_in_bool (o:Option Addr) (n c gf:Nat) (bs cs:Array Value) (w:World):Calls Tryz.prog 42 #[.slice o n c,.func (.func gf) bs cs] w fun e w'=>e = .returned (.func (.func 83) #[] #[.pointer (some ⟨w.heap.size,0,none⟩),.pointer (some ⟨w.heap.size + 1,0,none⟩)])/\w' = (w.alloc (.cells #[.slice o n c] 24)).alloc (.cells #[.func (.func gf) bs cs] 83):=by
 go_enter Tryz.func42,Tryz.ntmps42
 go_wp2
 go_ret
 exact ⟨rfl,rfl⟩
theorem each_tells_bool (n:Nat) (Bp Bf:Nat) (Ls:List Pt) (o:Option Addr) (cap gf:Nat) (bs cs:Array Value) (enc:Nat->Value) (row:Option Nat) (S:Nat->Prop) (St:Nat->World->Prop) (w:World)
  (eg:∀ args w,(callFunc gf args).run Tryz.prog w = .ok (.enter gf args) w)
  (hv:Lies w (.slice o Ls.length cap) Ls) (cp:w.cell? ⟨Bp,0,none⟩ = some (.slice o Ls.length cap)) (cf:w.cell? ⟨Bf,0,none⟩ = some (.func (.func gf) bs cs))
  (hSv:∀ q,o = some q->Ls ≠ []->S q.block/\some q.block ≠ row) (hSf:S Bf/\some Bf ≠ row) (hS:∀ b,S b->b < w.heap.size)
  (hst0:∀ W,Below w.heap.size w W->St 0 W) (hstS:∀ k A B,St k A->KeepO S A B->St k B)
  (hb:∀ k V,k < Ls.length->St k V->Calls Tryz.prog gf (bs.push (pt Ls k).v ++ cs) V fun e V'=>e = .returned (enc k)/\V.grownBy V' row/\St (k + 1) V') :
  TellsN n Tryz.prog 83 #[.pointer (some ⟨Bp,0,none⟩),.pointer (some ⟨Bf,0,none⟩)] (fun k=>#[enc k]) row S St Ls.length w:=by
 intro l J Jx W hB hJ hJx hJr hY h0
 have cp':=c_after hB cp
 have cf':=c_after hB cf
 have hv':=hv.below hB
 obtain ⟨o',cap',ee,hlc,hcm,hcell⟩:=hv'.form
 simp only [Value.slice.injEq,true_and] at ee
 obtain ⟨rfl,rfl⟩:=ee
 have HC:Hid _:=hcell
 have st0:=hst0 W hB
 clear hv hv' hcell cp cf hst0
 refine callsIn_of_wp Tryz.func83 rfl trivial ?_ rfl
 simp only [Tryz.ntmps83,List.size_toArray,List.length_cons,List.length_nil,Nat.reduceAdd,Nat.reduceSub,Array.replicate_succ,Array.replicate_zero,List.push_toArray,List.append_toArray,List.nil_append,List.cons_append]
 gi_wp2
 gi_loopw [8] (fun i wr=>∃ k:Nat,k <= Ls.length/\i = .int .i64 k/\Hid (J k wr)/\Hid (St k wr)/\Hid (KeepO (fun b=>S b/\some b ≠ row) W wr))
  (fun i _=>Ls.length - (intOf i).toNat)
 case atStart=>exact ⟨0,Nat.zero_le _,rfl,h0,st0,KeepO.refl _ _⟩
 case round =>
  obtain ⟨k,hk,rfl,hJk,hSk,hKk⟩:=hrel
  by_cases hlt:k < Ls.length
  ·obtain ⟨g,off,rfl,x0,x1,x2⟩:=HC.out k hlt
   have hSg:=hSv _ rfl (fun e=>by rw [e] at hlt;simp at hlt)
   have y0:=hKk.out.cell (q:=⟨g,off + k * 3,none⟩) hSg x0
   have y1:=hKk.out.cell (q:=⟨g,off + k * 3 + 1,none⟩) hSg x1
   have y2:=hKk.out.cell (q:=⟨g,off + k * 3 + 2,none⟩) hSg x2
   have cf2:=hKk.out.cell (q:=⟨Bf,0,none⟩) hSf cf'
   have HA:Hid _:=KeepO.alloc S wr (.cells #[.int .i64 (pt Ls k).x,.int .i64 (pt Ls k).y,.int .i64 (pt Ls k).z] 23)
   have hJ1:Hid (J k (wr.alloc (.cells #[.int .i64 (pt Ls k).x,.int .i64 (pt Ls k).y,.int .i64 (pt Ls k).z] 23))):=hJ.alloc _ hJk.out
   have hbk:Hid (Calls Tryz.prog gf (bs.push (.agg #[.int .i64 (pt Ls k).x,.int .i64 (pt Ls k).y,.int .i64 (pt Ls k).z]) ++ cs) (wr.alloc (.cells #[.int .i64 (pt Ls k).x,.int .i64 (pt Ls k).y,.int .i64 (pt Ls k).z] 23)) fun e V'=>e = .returned (enc k)/\(wr.alloc (.cells #[.int .i64 (pt Ls k).x,.int .i64 (pt Ls k).y,.int .i64 (pt Ls k).z] 23)).grownBy V' row/\St (k + 1) V'):=hb k _ hlt (hstS k _ _ hSk.out HA.out)
   have cf3:=c_after (n_after wr (.cells #[.int .i64 (pt Ls k).x,.int .i64 (pt Ls k).y,.int .i64 (pt Ls k).z] 23)) cf2
   clear x0 x1 x2
   generalize (pt Ls k).x = px at *
   generalize (pt Ls k).y = py at *
   generalize (pt Ls k).z = pz at *
   gi_wp2
   refine ⟨trivial,fun h=>(by cases h),(callsIn_wide.2 hbk.out).mono ?_⟩
   rintro e V1 ⟨rfl,g1,s1⟩
   have hJ2:=hJr k _ _ hJ1.out g1
   obtain ⟨fn,tmps,assign,body,hy,hR⟩:=hY k V1 hlt hJ2
   have k1:Hid (KeepO (fun b=>S b/\some b ≠ row) W V1):=(hKk.out.trans (HA.out.mono (fun b h=>h.1))).trans (KeepO.grown g1 (fun b h=>h.2))
   clear y0 y1 y2 cf2 cf3 hbk HA hJ1
   gi_wp2
   refine ⟨fun h=>(by cases h),hR.mono ?_⟩
   rintro e W3 (⟨rfl,hJ3,hk3,_⟩ | ⟨rfl,hJx3,_⟩)
   ·gi_wp2
    go_roundw
    case rel=>exact ⟨k + 1,by omega,by simp,hJ3,hstS _ _ _ s1 hk3,k1.out.trans (hk3.mono (fun b h=>h.1))⟩
    case measure=>simp [intOf];omega
   ·gi_wp2
    refine bodyPost_ret (results_none rfl _ _ _) rfl ?_
    exact ⟨⟨_,rfl⟩,.inr ⟨k,hlt,hJx3⟩⟩
  ·obtain rfl:k = Ls.length:=by omega
   gi_wp2
   go_end0
   exact ⟨⟨_,rfl⟩,.inl ⟨hJk.out,hSk.out⟩⟩
theorem each_in_box (o:Option Addr) (n c gf:Nat) (bs cs:Array Value) (w:World):Calls Tryz.prog 62 #[.slice o n c,.func (.func gf) bs cs] w fun e w'=>e = .returned (.func (.func 100) #[] #[.pointer (some ⟨w.heap.size,0,none⟩),.pointer (some ⟨w.heap.size + 1,0,none⟩)])/\w' = (w.alloc (.cells #[.slice o n c] 24)).alloc (.cells #[.func (.func gf) bs cs] 101):=by
 go_enter Tryz.func62,Tryz.ntmps62
 go_wp2
 go_ret
 exact ⟨rfl,rfl⟩
theorem each_tells_box (n:Nat) (Bp Bf:Nat) (Ls:List Pt) (o:Option Addr) (cap gf:Nat) (bs cs:Array Value) (enc:Nat->Value) (row:Option Nat) (S:Nat->Prop) (St:Nat->World->Prop) (w:World)
  (eg:∀ args w,(callFunc gf args).run Tryz.prog w = .ok (.enter gf args) w)
  (hv:Lies w (.slice o Ls.length cap) Ls) (cp:w.cell? ⟨Bp,0,none⟩ = some (.slice o Ls.length cap)) (cf:w.cell? ⟨Bf,0,none⟩ = some (.func (.func gf) bs cs))
  (hSv:∀ q,o = some q->Ls ≠ []->S q.block/\some q.block ≠ row) (hSf:S Bf/\some Bf ≠ row) (hS:∀ b,S b->b < w.heap.size)
  (hst0:∀ W,Below w.heap.size w W->St 0 W) (hstS:∀ k A B,St k A->KeepO S A B->St k B)
  (hb:∀ k V,k < Ls.length->St k V->Calls Tryz.prog gf (bs.push (pt Ls k).v ++ cs) V fun e V'=>e = .returned (enc k)/\V.grownBy V' row/\St (k + 1) V') :
  TellsN n Tryz.prog 100 #[.pointer (some ⟨Bp,0,none⟩),.pointer (some ⟨Bf,0,none⟩)] (fun k=>#[enc k]) row S St Ls.length w:=by
 intro l J Jx W hB hJ hJx hJr hY h0
 have cp':=c_after hB cp
 have cf':=c_after hB cf
 have hv':=hv.below hB
 obtain ⟨o',cap',ee,hlc,hcm,hcell⟩:=hv'.form
 simp only [Value.slice.injEq,true_and] at ee
 obtain ⟨rfl,rfl⟩:=ee
 have HC:Hid _:=hcell
 have st0:=hst0 W hB
 clear hv hv' hcell cp cf hst0
 refine callsIn_of_wp Tryz.func100 rfl trivial ?_ rfl
 simp only [Tryz.ntmps100,List.size_toArray,List.length_cons,List.length_nil,Nat.reduceAdd,Nat.reduceSub,Array.replicate_succ,Array.replicate_zero,List.push_toArray,List.append_toArray,List.nil_append,List.cons_append]
 gi_wp2
 gi_loopw [8] (fun i wr=>∃ k:Nat,k <= Ls.length/\i = .int .i64 k/\Hid (J k wr)/\Hid (St k wr)/\Hid (KeepO (fun b=>S b/\some b ≠ row) W wr))
  (fun i _=>Ls.length - (intOf i).toNat)
 case atStart=>exact ⟨0,Nat.zero_le _,rfl,h0,st0,KeepO.refl _ _⟩
 case round =>
  obtain ⟨k,hk,rfl,hJk,hSk,hKk⟩:=hrel
  by_cases hlt:k < Ls.length
  ·obtain ⟨g,off,rfl,x0,x1,x2⟩:=HC.out k hlt
   have hSg:=hSv _ rfl (fun e=>by rw [e] at hlt;simp at hlt)
   have y0:=hKk.out.cell (q:=⟨g,off + k * 3,none⟩) hSg x0
   have y1:=hKk.out.cell (q:=⟨g,off + k * 3 + 1,none⟩) hSg x1
   have y2:=hKk.out.cell (q:=⟨g,off + k * 3 + 2,none⟩) hSg x2
   have cf2:=hKk.out.cell (q:=⟨Bf,0,none⟩) hSf cf'
   have HA:Hid _:=KeepO.alloc S wr (.cells #[.int .i64 (pt Ls k).x,.int .i64 (pt Ls k).y,.int .i64 (pt Ls k).z] 23)
   have hJ1:Hid (J k (wr.alloc (.cells #[.int .i64 (pt Ls k).x,.int .i64 (pt Ls k).y,.int .i64 (pt Ls k).z] 23))):=hJ.alloc _ hJk.out
   have hbk:Hid (Calls Tryz.prog gf (bs.push (.agg #[.int .i64 (pt Ls k).x,.int .i64 (pt Ls k).y,.int .i64 (pt Ls k).z]) ++ cs) (wr.alloc (.cells #[.int .i64 (pt Ls k).x,.int .i64 (pt Ls k).y,.int .i64 (pt Ls k).z] 23)) fun e V'=>e = .returned (enc k)/\(wr.alloc (.cells #[.int .i64 (pt Ls k).x,.int .i64 (pt Ls k).y,.int .i64 (pt Ls k).z] 23)).grownBy V' row/\St (k + 1) V'):=hb k _ hlt (hstS k _ _ hSk.out HA.out)
   have cf3:=c_after (n_after wr (.cells #[.int .i64 (pt Ls k).x,.int .i64 (pt Ls k).y,.int .i64 (pt Ls k).z] 23)) cf2
   clear x0 x1 x2
   generalize (pt Ls k).x = px at *
   generalize (pt Ls k).y = py at *
   generalize (pt Ls k).z = pz at *
   gi_wp2
   refine ⟨trivial,fun h=>(by cases h),(callsIn_wide.2 hbk.out).mono ?_⟩
   rintro e V1 ⟨rfl,g1,s1⟩
   have hJ2:=hJr k _ _ hJ1.out g1
   obtain ⟨fn,tmps,assign,body,hy,hR⟩:=hY k V1 hlt hJ2
   have k1:Hid (KeepO (fun b=>S b/\some b ≠ row) W V1):=(hKk.out.trans (HA.out.mono (fun b h=>h.1))).trans (KeepO.grown g1 (fun b h=>h.2))
   clear y0 y1 y2 cf2 cf3 hbk HA hJ1
   gi_wp2
   refine ⟨fun h=>(by cases h),hR.mono ?_⟩
   rintro e W3 (⟨rfl,hJ3,hk3,_⟩ | ⟨rfl,hJx3,_⟩)
   ·gi_wp2
    go_roundw
    case rel=>exact ⟨k + 1,by omega,by simp,hJ3,hstS _ _ _ s1 hk3,k1.out.trans (hk3.mono (fun b h=>h.1))⟩
    case measure=>simp [intOf];omega
   ·gi_wp2
    refine bodyPost_ret (results_none rfl _ _ _) rfl ?_
    exact ⟨⟨_,rfl⟩,.inr ⟨k,hlt,hJx3⟩⟩
  ·obtain rfl:k = Ls.length:=by omega
   gi_wp2
   go_end0
   exact ⟨⟨_,rfl⟩,.inl ⟨hJk.out,hSk.out⟩⟩
end
section
open Go.RowKit Go.Shelf
theorem Cells.lt {W:World} {b:Nat} {u:Value} {vs:List Value} (h:Cells W b (u :: vs)):b < W.heap.size:=World.block_lt_of_cell? _ _ (h 0 u rfl).1
theorem Cells.apart {W:World} {b b':Nat} {vs:List Value} (h:Cells W b vs) (hne:b ≠ b') (o:Nat) (u:Value):Cells (W.setCell ⟨b',o,none⟩ u) b vs:=fun i v e =>
 ⟨by simp [go_sem,(h i v e).1],by simp [go_sem,(h i v e).2]⟩
def coreV (pv av ev:Value) (r:Int):Value:=.agg #[pv,av,ev,.int .i64 r]
theorem Cells.keepO {S:Nat->Prop} {A B:World} {b:Nat} {vs:List Value} (h:Cells A b vs) (hk:KeepO S A B) (hb:S b):Cells B b vs:=fun i v e =>
 ⟨hk.cell (q:=⟨b,i,none⟩) hb (h i v e).1,(hk.frozen (q:=⟨b,i,none⟩) hb (h i v e).1).trans (h i v e).2⟩
theorem Cells.grew {A B:World} {row:Option Nat} {b:Nat} {vs:List Value} (h:Cells A b vs) (hg:A.grownBy B row) (hb:∀ r,row = some r->r ≠ b):Cells B b vs:=fun i v e=>by
 have hlt:=World.block_lt_of_cell? _ _ (h i v e).1
 have hbl:=hg.block b hlt (fun e=>hb b e.symm rfl)
 exact ⟨(World.cell?_of_block (w:=A) hbl).trans (h i v e).1,(World.frozen?_of_block (w:=A) hbl).trans (h i v e).2⟩
end
section
open Go.RowKit
theorem mul64_any (x y:Int) (w:World) (hx0:0 <= x) (hx:x < 18446744073709551616) (hy0:0 <= y) (hy:y < 18446744073709551616) :
  Calls Tryz.prog 127 #[.int .u64 x,.int .u64 y] w fun e w'=>e = .returned (.tuple #[.int .u64 (x * y / 18446744073709551616),.int .u64 (x * y % 18446744073709551616)])/\w' = w:=by
 have Ha:Hid (_ = _):=mul64_arith x y hx0 hx hy0 hy
 have hmx:=and_low32 x hx0 hx
 have hmy:=and_low32 y hy0 hy
 have hmt:Hid (∀ z:Int,bits .and .u64 (z % 18446744073709551616) 4294967295 = z % 18446744073709551616 % 4294967296):=fun z=>and_low32 _ (by omega) (by omega)
 go_enter Tryz.func127,Tryz.ntmps127
 go_wp2
 simp only [IntKind.wrap_u64,hmt.out,Ha.out]
 go_ret2
 exact ⟨rfl,rfl⟩
theorem add64_run (x y c:Int) (w:World) (hx0:0 <= x) (hy0:0 <= y) (hc0:0 <= c) (hc:c <= 1) :
  (callFunc 126 #[.int .u64 x,.int .u64 y,.int .u64 c]).run Tryz.prog w =
   .ok (.value (.tuple #[.int .u64 ((x + y + c) % 18446744073709551616),.int .u64 ((x + y + c) / 18446744073709551616)])) w:=by
 rw [run_callFunc_extern Tryz.func126 (by kernel_rfl) (by kernel_rfl) (by kernel_rfl) (e:=add64Entry) (by kernel_rfl),run_add64 x y c hx0 hy0 hc0 hc]
 rfl
end
section
namespace Fx
theorem div_of {n y q:Int} (hy:0 < y) (h1:q * y <= n) (h2:n < (q + 1) * y):n / y = q/\n % y = n - q * y:=by
 have e:n / y = q:=by
  apply Int.le_antisymm
  ·have:=(Int.ediv_lt_iff_lt_mul hy).2 h2;omega
  ·exact (Int.le_ediv_iff_mul_le hy).2 h1
 refine ⟨e,?_⟩
 have:=Int.emod_add_mul_ediv n y
 rw [e,Int.mul_comm] at this
 omega
theorem div_is (n y:Int) (hy:0 < y):n / y * y <= n/\n < (n / y + 1) * y:=by
 have a:=Int.emod_add_mul_ediv n y
 have b:=Int.emod_nonneg n (by omega:y ≠ 0)
 have c:=Int.emod_lt_of_pos n hy
 rw [Int.add_mul,Int.mul_comm (n / y) y]
 omega
def fl (X c:Int):Int:=if c < 0 then (-X) / (-c) else X / c
theorem neg_div {T c:Int} (hc:0 < c):(-T) / c = if T % c = 0 then -(T / c) else -(T / c + 1):=by
 have a:=Int.emod_add_mul_ediv T c
 have b:=Int.emod_nonneg T (by omega:c ≠ 0)
 have d:=Int.emod_lt_of_pos T hc
 rw [Int.mul_comm] at a
 split
 ·refine (div_of hc ?_ ?_).1
  ·rw [Int.neg_mul];omega
  ·rw [Int.add_mul,Int.neg_mul];omega
 ·refine (div_of hc ?_ ?_).1
  ·rw [Int.neg_mul,Int.add_mul];omega
  ·rw [Int.neg_add,Int.neg_add_cancel_right,Int.neg_mul];omega
def isq:Nat->Nat
 | 0=>0
 | n + 1=>if (isq n + 1) * (isq n + 1) <= n + 1 then isq n + 1 else isq n
theorem isq_is (n:Nat):isq n * isq n <= n/\n < (isq n + 1) * (isq n + 1):=by
 induction n with
 | zero=>simp [isq]
 | succ n ih =>
  simp only [isq]
  split
  ·refine ⟨by assumption,?_⟩
   have:(isq n + 1 + 1) * (isq n + 1 + 1) = (isq n + 1) * (isq n + 1) + 2 * isq n + 3:=by grind
   omega
  ·omega
theorem isq_of {X r:Int} (h0:0 <= r) (h1:r * r <= X) (h2:X < (r + 1) * (r + 1)):r = (isq X.toNat:Int):=by
 have hX:0 <= X:=Int.le_trans (Int.mul_nonneg h0 h0) h1
 obtain ⟨x,rfl⟩:=Int.eq_ofNat_of_zero_le hX
 obtain ⟨r,rfl⟩:=Int.eq_ofNat_of_zero_le h0
 obtain ⟨a,b⟩:=isq_is x
 simp only [Int.toNat_natCast]
 have h1:r * r <= x:=by exact_mod_cast h1
 have h2:x < (r + 1) * (r + 1):=by exact_mod_cast h2
 have c:r < isq x + 1:=by
  apply Nat.lt_of_not_le;intro h
  have:=Nat.mul_le_mul h h;omega
 have d:isq x < r + 1:=by
  apply Nat.lt_of_not_le;intro h
  have:=Nat.mul_le_mul h h;omega
 omega
def great (n:Int):Bool:=decide (n < -4611686018427387903) || decide (4611686018427387903 < n)
theorem great_iff (n:Int):great n = true ↔ n < -4611686018427387903 \/ 4611686018427387903 < n:=by simp [great]
theorem not_great (n:Int):great n = false ↔ -4611686018427387903 <= n/\n <= 4611686018427387903:=by simp [great]
def told (n:Int):Option Int:=if great n then none else some n
def add (a b:Int):Option Int:=if great a || great b then none else told (a + b)
def sub (a b:Int):Option Int:=if great a || great b then none else told (a - b)
def ratio (a b c:Int):Option Int:=if c = 0 then none else if great a || (great b || great c) then none else told (fl (a * b) c)
def root (a:Int):Option Int:=if a < 0 then none else if great a then none else told (isq (a * 4294967296).toNat)
def prods:List Int->List Int->Int
 | a :: l,b :: m=>a * b + prods l m
 | _,_=>0
theorem prods_step:∀ (k:Nat) (l m:List Int),k < l.length->k < m.length->prods (l.take (k + 1)) (m.take (k + 1)) = prods (l.take k) (m.take k) + l.getD k 0 * m.getD k 0
 | 0,a :: l,b :: m,_,_=>by simp [prods]
 | k + 1,a :: l,b :: m,h,h'=>by
  have:=prods_step k l m (by simpa using h) (by simpa using h')
  simp only [List.take_succ_cons,prods,List.getD_cons_succ] at this ⊢
  rw [this];omega
 | _,[],_,h,_=>by simp at h
 | _,_ :: _,[],_,h=>by simp at h
theorem prods_bound:∀ (l m:List Int),l.any great = false->m.any great = false->(prods l m).natAbs <= l.length * 21267647932558653957237540927630737409
 | [],_,_,_=>by simp [prods]
 | _ :: _,[],_,_=>by simp [prods]
 | a :: l,b :: m,h,h'=>by
  simp only [List.any_cons,Bool.or_eq_false_iff] at h h'
  have:=prods_bound l m h.2 h'.2
  have ha:=(not_great a).1 h.1
  have hb:=(not_great b).1 h'.1
  have hp:(a * b).natAbs <= 4611686018427387903 * 4611686018427387903:=by rw [Int.natAbs_mul];exact Nat.mul_le_mul (by omega) (by omega)
  simp only [prods,List.length_cons]
  omega
theorem prods_self:∀ (l:List Int),0 <= prods l l
 | []=>by simp [prods]
 | a :: l=>by
  have:=prods_self l
  have h:0 <= a * a:=by
   rcases Int.le_total 0 a with g | g
   ·exact Int.mul_nonneg g g
   ·exact Int.mul_nonneg_of_nonpos_of_nonpos g g
  simp only [prods];omega
theorem any_take {l:List Int} (k:Nat) (h:l.any great = false):(l.take k).any great = false:=by
 rw [List.any_eq_false] at h ⊢
 exact fun x hx=>h x (List.mem_of_mem_take hx)
theorem getD_small {l:List Int} {k:Nat} (h:l.any great = false) (hk:k < l.length):great (l.getD k 0) = false:=by
 rw [List.any_eq_false] at h
 have:=h _ (List.getElem_mem hk)
 simpa [List.getD_eq_getElem?_getD,List.getElem?_eq_getElem hk] using this
def dot (l m:List Int):Option Int:=if l.length ≠ m.length then none else if 8 < l.length then none else if l.any great || m.any great then none else told (prods l m / 4294967296)
def norm (l:List Int):Option Int:=if 8 < l.length then none else if l.any great then none else told (isq (prods l l).toNat)
end Fx
end
end Go.Proofs.YtlhhmiicpddjoaaGreat
