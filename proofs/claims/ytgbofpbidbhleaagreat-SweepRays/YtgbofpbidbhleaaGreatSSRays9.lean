/- Package sweep: lists of points: slices.Concat, moved, acrossEach, directions. -/
import Derived.Test.YtgbofpbidbhleaaGreatSSRays5
import Derived.Test.YtgbofpbidbhleaaGreatSSRays8
import Derived.Test.YtgbofpbidbhleaaGreatSSRays1
import Derived.Lib.AppendZeros
set_option maxHeartbeats 8000000
set_option maxRecDepth 100000
set_option linter.unusedVariables false
namespace Go.Proofs.YtgbofpbidbhleaaGreat
section
open Go.RowKit Go.Shelf
theorem CK.one (w0:World) (l1:List Value) (t1:TypeId):CK w0 (w0.alloc (.cells l1.toArray t1)) w0.heap.size [(w0.heap.size,l1)] (.slice none 0 0) [] (.slice none 0 0) []:=by
 refine ⟨n_after _ _,fun p hp=>?_,Nat.le_refl _,by simp,World.ownsRow_nil _ _ _ _,World.ownsRow_nil _ _ _ _,fun k e=>by cases e⟩
 rw [List.mem_singleton.1 hp]
 exact ⟨by simp,(fun e=>by cases e),(fun e=>by cases e),Cel.new _ _ _⟩
theorem keep_no {M:List Pt} {i:Nat} (h:i < M.length) (hz:pt M i = Pt.O):keepD (M.take (i + 1)) = keepD (M.take i):=by
 unfold keepD
 rw [take_pt h,List.filter_append,hz]
 simp
theorem keep_add {M:List Pt} {i:Nat} (h:i < M.length) (hz:pt M i ≠ Pt.O) (hl:(keepD (M.take i)).length < 128):keepD (M.take (i + 1)) = keepD (M.take i) ++ [pt M i]:=by
 unfold keepD at *
 rw [take_pt h,List.filter_append]
 have e:List.filter (fun p=>decide (p ≠ Pt.O)) [pt M i] = [pt M i]:=by simp [hz]
 rw [e]
 rw [List.length_take] at hl
 rw [List.take_append,List.take_of_length_le (l:=[pt M i]) (by show 1 <= 128 - (List.filter (fun p=>decide (p ≠ Pt.O)) (List.take i M)).length;omega)]
theorem keep_full {M:List Pt} {i:Nat} (h:i < M.length) (hz:pt M i ≠ Pt.O) (hl:¬ (keepD (M.take i)).length < 128):keepD (M.take (i + 1)) = keepD (M.take i):=by
 unfold keepD at *
 rw [take_pt h,List.filter_append]
 rw [List.length_take] at hl
 rw [List.take_append_of_le_length (by omega)]
theorem wgrow_any (n:Nat) (w:World) (hn:n <= 1048576) :
  Calls Tryz.prog 112 #[.slice none 0 0,.int .i64 (n:Int)] w fun e W=>∃ u,e = .returned u/\W.ownsRow w.heap.size 23 3 u 0 []/\Below w.heap.size w W:=by
 by_cases h0:n = 0
 ·subst h0
  go_enter Tryz.func112,Tryz.ntmps112
  go_wp2
  go_ret
  exact ⟨_,rfl,World.ownsRow_nil _ _ _ _,Below.refl _ _⟩
 ·obtain ⟨i0,hii,hiz,hisz,hib⟩:=info_parts point_info
  obtain ⟨G,hG⟩:∃ G,G = grownCap w n 0 23:=⟨_,rfl⟩
  obtain ⟨ROW,hROW⟩:∃ ROW:Array Value,ROW = Builtin.zeroCells (Value.agg #[.int .i64 0,.int .i64 0,.int .i64 0]).cells n ++ Builtin.zeroCells (Value.agg #[.int .i64 0,.int .i64 0,.int .i64 0]).cells (G - n):=⟨_,rfl⟩
  have hrz:∀ ty,(Builtin.append_ #[24,3] ty #[.slice none 0 0,.int .i64 (n:Int)]).run Tryz.prog w = .ok (.slice (some ⟨w.heap.size,0,none⟩) n G) (w.drew.alloc (.cells ROW 23)):=fun ty=>by
   have h:=Lib.run_append_nil_zeros (P:=Tryz.prog) w 24 3 ty 23 i0 _ .i64 .i64 Tryz.underlying24 Tryz.underlying3 hii hiz n (by omega) (by omega) (by omega) (by rw [hib];omega)
   rw [<- hG,<- hROW] at h
   exact h
  have hGn:n <= G:=by rw [hG];exact grownCap_ge w _ _ _
  have hGm:G <= maxLen:=by rw [hG];exact grownCap_le_maxLen w n 0 _ (by unfold maxLen;omega)
  have hRs:ROW.size = G * 3:=by
   rw [hROW]
   simp only [Array.size_append,size_zeroCells]
   simp [Value.cells]
   omega
  obtain ⟨W1,hW1⟩:∃ W1,W1 = w.drew.alloc (.cells ROW 23):=⟨_,rfl⟩
  have hg1:W1.heap[w.heap.size]? = some (.cells ROW 23 (0,0)):=by rw [hW1];exact heap_alloc_new w.drew _
  have HF:Hid (W1.ownsRow w.heap.size 23 3 (.slice (some ⟨w.heap.size,0,none⟩) 0 G) 0 []/\Below w.heap.size w W1):=⟨⟨rfl,Or.inr ⟨w.heap.size,G,ROW,rfl,Nat.le_refl _,hg1,Nat.zero_le _,hGm,hRs,by simp⟩⟩,by rw [hW1];exact (Below.refl _ w).drew.alloc (Nat.le_refl _) _⟩
  rw [<- hW1] at hrz
  have h1:¬ ((n:Int) < 0):=by omega
  have h2:(0:Int) < (n:Int):=by omega
  have h3:IntKind.i64.wrap (n:Int) = n:=by rw [IntKind.wrap_i64];omega
  have hb6:¬ (G = 0):=by omega
  have hG63:G <= 9223372036854775807:=by unfold maxLen at hGm;omega
  have HR:Hid _:=hrz
  clear hW1 hg1 hRs hGm hROW hG hii hiz hisz hib h0 hrz
  go_enter Tryz.func112,Tryz.ntmps112
  go_wp2_with (at_builtin;refine Lib.wpList_append_run _ rfl _ _ _ _ rfl _ _ rfl rfl _ _ (HR.out _) ?_)
  go_ret
  exact ⟨_,rfl,HF.out⟩
theorem wconcat_any (A B:List Pt) (va vb:Value) (g:Nat) (w0:World) (hA:Lies w0 va A) (hB:Lies w0 vb B) (hc:Cel w0 g [va,vb]) (hN:A.length + B.length <= 1048576) :
  Calls Tryz.prog 70 #[.slice (some ⟨g,0,none⟩) 2 2] w0 fun e W=>∃ u,e = .returned u/\Row w0 W u (A ++ B):=by
 have LA:Hid _:=hA
 have LB:Hid _:=hB
 obtain ⟨oa,ca,rfl,_⟩:=hA.form
 obtain ⟨ob,cb,rfl,_⟩:=hB.form
 have HC:Hid _:=hc
 have HG:Hid _:=fun w'=>wgrow_any (A.length + B.length) w' hN
 rw [Int.natCast_add] at HG
 clear hA hB hc
 have wa:IntKind.i64.wrap (A.length:Int) = A.length:=by rw [IntKind.wrap_i64];omega
 have wab:IntKind.i64.wrap ((A.length:Int) + (B.length:Int)) = (A.length:Int) + (B.length:Int):=by rw [IntKind.wrap_i64];omega
 have na:¬ ((A.length:Int) < 0):=by omega
 have nab:¬ ((A.length:Int) + (B.length:Int) < 0):=by omega
 have x0:=HC.out 0 _ rfl
 have x1:=HC.out 1 _ rfl
 go_enter Tryz.func70,Tryz.ntmps70
 go_wp2_with (fail)
 go_loopg [3,11] 2 (fun gm s3 s11 wr=>Hid (gm = 2/\s3 = .int .i64 0/\s11 = .int .i64 0 \/ gm = 1/\s3 = .int .i64 (A.length:Int)/\s11 = .int .i64 1 \/ gm = 0/\s3 = .int .i64 ((A.length:Int) + (B.length:Int))/\s11 = .int .i64 2)/\wr = w0)
 case atStart=>exact ⟨Or.inl ⟨rfl,rfl,rfl⟩,rfl⟩
 case round =>
  obtain ⟨HR,hwr⟩:=hrel
  rw [hwr]
  clear hwr
  rcases HR.out with ⟨rfl,rfl,rfl⟩ | ⟨rfl,rfl,rfl⟩ | ⟨rfl,rfl,rfl⟩
  ·clear HR x1
   go_wp2_with (fail)
   go_roundg 1
   case rel=>exact ⟨Or.inr (Or.inl ⟨rfl,rfl,rfl⟩),rfl⟩
   case measure=>omega
  ·clear HR x0
   go_wp2_with (fail)
   go_roundg 0
   case rel=>exact ⟨Or.inr (Or.inr ⟨rfl,rfl,rfl⟩),rfl⟩
   case measure=>omega
  ·clear HR x0 x1
   go_wp2_with (fail)
   refine Calls.mono (HG.out _) ?_
   rintro e W1 ⟨u,rfl,hr,hb⟩
   have HK:Hid (CK w0 W1 w0.heap.size [(g,[.slice oa A.length ca,.slice ob B.length cb])] u [] (.slice none 0 0) []):=by
    refine ⟨hb,fun p hp=>?_,Nat.le_refl _,hb.size,hr,World.ownsRow_nil _ _ _ _,fun k e=>by cases e⟩
    rw [List.mem_singleton.1 hp]
    have hg:=Cel.lt HC.out
    exact ⟨Nat.lt_of_lt_of_le hg hb.size,(fun e=>by have:=(hr.lt _ e).1;omega),(fun e=>by cases e),Cel.step HC.out hb⟩
   obtain ⟨o1,c1,e1⟩:=rowp_form hr
   subst e1
   clear hr hb HC HG wa wab na nab
   go_wp2_with (fail)
   go_loopg [6,27] 2 (fun gm s6 s27 wr2=>∃ (o2:Option Addr) (c2:Nat) (X:List Pt),s6 = .slice o2 X.length c2/\Hid (CK w0 wr2 w0.heap.size [(g,[.slice oa A.length ca,.slice ob B.length cb])] (.slice o2 X.length c2) X (.slice none 0 0) [])/\Hid (gm = 2/\X = []/\s27 = .int .i64 0 \/ gm = 1/\X = A/\s27 = .int .i64 1 \/ gm = 0/\X = A ++ B/\s27 = .int .i64 2))
   case atStart=>exact ⟨o1,c1,[],rfl,HK,Or.inl ⟨rfl,rfl,rfl⟩⟩
   case round =>
    clear HK
    obtain ⟨o2,c2,X,rfl,HK,HR⟩:=hrel
    have x0:=(HK.out.at (List.mem_singleton.2 rfl)) 0 _ rfl
    have x1:=(HK.out.at (List.mem_singleton.2 rfl)) 1 _ rfl
    rcases HR.out with ⟨rfl,rfl,rfl⟩ | ⟨rfl,rfl,rfl⟩ | ⟨rfl,rfl,rfl⟩
    ·clear HR x1
     go_wp2_with (at_builtin;refine append_lies rfl _ _ rfl w0.heap.size _ [] rfl HK.out.own _ A rfl (LA.out.below HK.out.below) (by first | omega | (simp;omega)) HK.out.hx ?_;intro u9 V9 r8 g8 s8;have HK9:Hid _:=HK.out.grew r8 (grewOf g8 s8);obtain ⟨o9,c9,e9⟩:=rowp_form HK9.out.own;subst e9;clear r8 g8 s8)
     clear x0
     go_roundg 1
     case rel=>exact ⟨o9,c9,A,rfl,HK9,Or.inr (Or.inl ⟨rfl,rfl,rfl⟩)⟩
     case measure=>omega
    ·clear HR x0
     go_wp2_with (at_builtin;refine append_lies rfl _ _ rfl w0.heap.size _ X rfl HK.out.own _ B rfl (LB.out.below HK.out.below) (by first | omega | (simp;omega)) HK.out.hx ?_;intro u9 V9 r8 g8 s8;have HK9:Hid _:=HK.out.grew r8 (grewOf g8 s8);obtain ⟨o9,c9,e9⟩:=rowp_form HK9.out.own;subst e9;clear r8 g8 s8)
     clear x1
     go_roundg 0
     case rel=>exact ⟨o9,c9,X ++ B,by rw [List.length_append],HK9,Or.inr (Or.inr ⟨rfl,rfl,rfl⟩)⟩
     case measure=>omega
    ·clear HR x0 x1
     go_wp2_with (fail)
     go_ret
     exact ⟨_,rfl,HK.out.own,HK.out.below⟩
theorem wmoved_any (Ls:List Pt) (q:Pt) (v:Value) (w0:World) (hv:Lies w0 v Ls) (hP:∀ p ∈ Ls,p.inB 1152921504606846976 = true) (hq:q.inB 1152921504606846976 = true) (hN:Ls.length <= 1048576) :
  Calls Tryz.prog 37 #[v,q.v] w0 fun e W=>∃ u,e = .returned u/\Row w0 W u (Ls.map (·.mov q)):=by
 have HPL:Hid _:=fun (p:Pt) (hp:p ∈ Ls) (w':World)=>wplus_any p q w' (hP p hp) hq
 have HV:Hid _:=hv
 obtain ⟨o,cap,rfl,hlc,hcm,_⟩:=hv.form
 obtain ⟨i0,h1,h2,h3,h4⟩:=info_parts point_info
 have HI:Hid _:=And.intro h1 (And.intro h2 (And.intro h3 h4))
 clear hv hP hq h1 h2 h3 h4
 obtain ⟨W1,hW1⟩:∃ V,V = w0.alloc (.cells #[.int .i64 q.x,.int .i64 q.y,.int .i64 q.z] 23):=⟨_,rfl⟩
 obtain ⟨bb,hbb⟩:∃ b,b = w0.heap.size:=⟨_,rfl⟩
 have HK:Hid (CK w0 W1 w0.heap.size [(bb,[.int .i64 q.x,.int .i64 q.y,.int .i64 q.z])] (.slice none 0 0) [] (.slice none 0 0) []):=by show CK _ _ _ _ _ _ _ _;rw [hW1,hbb];exact CK.one w0 [.int .i64 q.x,.int .i64 q.y,.int .i64 q.z] _
 unfold Pt.v at *
 go_enter Tryz.func37,Tryz.ntmps37
 go_upto_region 1 with fail
 rw [<- hW1,<- hbb]
 clear hW1 hbb
 go_wp2_with (fail)
 go_loopg [5,10] Ls.length (fun gm s5 s10 wr=>∃ (i:Nat) (o2:Option Addr) (c2:Nat) (X:List Pt),s5 = .slice o2 X.length c2/\s10 = .int .i64 (i:Int)/\i <= Ls.length/\X.length <= i/\Hid (gm = Ls.length - i)/\Hid (CK w0 wr w0.heap.size [(bb,[.int .i64 q.x,.int .i64 q.y,.int .i64 q.z])] (.slice o2 X.length c2) X (.slice none 0 0) [])/\Hid (X = (Ls.take i).map (·.mov q)))
 case atStart=>exact ⟨0,none,0,[],rfl,rfl,Nat.zero_le _,Nat.le_refl _,rfl,HK,by show _ = _;simp⟩
 case round =>
  clear HK
  obtain ⟨i,o2,c2,X,rfl,rfl,hi9,hX9,HG,HK,HE⟩:=hrel
  by_cases hit:i < Ls.length
  ·obtain ⟨o',cap',e',_,_,hcl⟩:=(HV.out.below HK.out.below).form
   cases e'
   obtain ⟨ge,fe,rfl,x0,x1,x2⟩:=hcl i hit
   clear hcl
   have HPLi:Hid _:=HPL.out (pt Ls i) (pt_mem hit)
   have HNX:Hid _:=map_take (·.mov q) Ls hit
   obtain ⟨p,hpe⟩:∃ x,pt Ls i = x:=⟨_,rfl⟩
   rw [hpe] at x0 x1 x2 HNX HPLi
   clear hpe HPL
   have z0:=(HK.out.at (List.mem_singleton.2 rfl)) 0 _ rfl
   have z1:=(HK.out.at (List.mem_singleton.2 rfl)) 1 _ rfl
   have z2:=(HK.out.at (List.mem_singleton.2 rfl)) 2 _ rfl
   have hbl:=World.block_lt_of_cell? _ _ z0
   dsimp only at hbl
   obtain ⟨r,hr⟩:∃ x,p.mov q = x:=⟨_,rfl⟩
   rw [hr] at HPLi HNX
   clear hr
   go_wp2_with (fail)
   refine Calls.mono (HPLi.out _) ?_
   rintro e V2 ⟨rfl,hb⟩
   have HK:Hid _:=HK.out.step (b_step (n_after wr _) hb)
   clear hb x0 x1 x2 z0 z1 z2 hbl HPLi
   go_wp2_with (at_builtin;refine wpList_append_own_at _ rfl _ _ 24 rfl w0.heap.size 23 i0 _ 3 24 Tryz.underlying24 HI.out.1 HI.out.2.1 HI.out.2.2.1 HI.out.2.2.2 rfl (by decide) _ _ _ rfl (own_below HK.out.own (n_after V2 _)) ⟨V2.heap.size,0,none⟩ 1 1 [.int .i64 r.x,.int .i64 r.y,.int .i64 r.z] rfl rfl (news_at (heap_alloc_new V2 _)) (by intro u hu;simp at hu;rcases hu with rfl | rfl | rfl <;> rfl) (by unfold maxLen;omega) (by omega) (by have:=HK.out.hx;simp;omega) ?_;intro u9 V9 r8 g8 _ s8;have HK9:Hid _:=CK.app r (HK.out.step (n_after V2 _)) r8 (grewOf g8 s8);obtain ⟨o9,c9,e9⟩:=rowp_form HK9.out.own;subst e9;clear r8 g8 s8)
   go_roundg (Ls.length - (i + 1))
   case measure=>have:=HG.out;omega
   case rel=>exact ⟨i + 1,o9,c9,X ++ [r],by rw [List.length_append];rfl,by go_num,by omega,by rw [List.length_append];simp;omega,rfl,HK9,by show _ = _;rw [HNX.out,HE.out]⟩
  ·obtain rfl:i = Ls.length:=by omega
   have HE:Hid (X = Ls.map (·.mov q)):=by show _ = _;rw [HE.out,List.take_length]
   go_wp2_with (fail)
   exact bodyPost_ret (v:=.slice o2 X.length c2) (by simp [results,Tryz.results37,go_sem]) rfl ⟨_,rfl,by show Row _ _ _ _;rw [<- HE.out];exact ⟨HK.out.own,HK.out.below⟩⟩
theorem wacross_any (Ls:List Pt) (q:Pt) (v:Value) (w0:World) (hv:Lies w0 v Ls) (hP:∀ p ∈ Ls,p.inB 1048576 = true) (hq:q.inB 1048576 = true) (hN:Ls.length <= 1048576) :
  Calls Tryz.prog 73 #[v,q.v] w0 fun e W=>∃ u,e = .returned u/\Row w0 W u (Ls.map (fun e=>(e.cross q).short)):=by
 have HPL:Hid _:=fun (p:Pt) (hp:p ∈ Ls) (w':World)=>wcross_any p q w' (hP p hp) hq
 have HSH:Hid _:=fun (p:Pt) (hp:p ∈ Ls) (w':World)=>short_any (p.cross q) w'
 have HV:Hid _:=hv
 obtain ⟨o,cap,rfl,hlc,hcm,_⟩:=hv.form
 obtain ⟨i0,h1,h2,h3,h4⟩:=info_parts point_info
 have HI:Hid _:=And.intro h1 (And.intro h2 (And.intro h3 h4))
 clear hv hP hq h1 h2 h3 h4
 obtain ⟨W1,hW1⟩:∃ V,V = w0.alloc (.cells #[.int .i64 q.x,.int .i64 q.y,.int .i64 q.z] 23):=⟨_,rfl⟩
 obtain ⟨bb,hbb⟩:∃ b,b = w0.heap.size:=⟨_,rfl⟩
 have HK:Hid (CK w0 W1 w0.heap.size [(bb,[.int .i64 q.x,.int .i64 q.y,.int .i64 q.z])] (.slice none 0 0) [] (.slice none 0 0) []):=by show CK _ _ _ _ _ _ _ _;rw [hW1,hbb];exact CK.one w0 [.int .i64 q.x,.int .i64 q.y,.int .i64 q.z] _
 unfold Pt.v at *
 go_enter Tryz.func73,Tryz.ntmps73
 go_upto_region 1 with fail
 rw [<- hW1,<- hbb]
 clear hW1 hbb
 go_wp2_with (fail)
 go_loopg [5,10] Ls.length (fun gm s5 s10 wr=>∃ (i:Nat) (o2:Option Addr) (c2:Nat) (X:List Pt),s5 = .slice o2 X.length c2/\s10 = .int .i64 (i:Int)/\i <= Ls.length/\X.length <= i/\Hid (gm = Ls.length - i)/\Hid (CK w0 wr w0.heap.size [(bb,[.int .i64 q.x,.int .i64 q.y,.int .i64 q.z])] (.slice o2 X.length c2) X (.slice none 0 0) [])/\Hid (X = (Ls.take i).map (fun e=>(e.cross q).short)))
 case atStart=>exact ⟨0,none,0,[],rfl,rfl,Nat.zero_le _,Nat.le_refl _,rfl,HK,by show _ = _;simp⟩
 case round =>
  clear HK
  obtain ⟨i,o2,c2,X,rfl,rfl,hi9,hX9,HG,HK,HE⟩:=hrel
  by_cases hit:i < Ls.length
  ·obtain ⟨o',cap',e',_,_,hcl⟩:=(HV.out.below HK.out.below).form
   cases e'
   obtain ⟨ge,fe,rfl,x0,x1,x2⟩:=hcl i hit
   clear hcl
   have HPLi:Hid _:=HPL.out (pt Ls i) (pt_mem hit)
   have HSHi:Hid _:=HSH.out (pt Ls i) (pt_mem hit)
   have HNX:Hid _:=map_take (fun e=>(e.cross q).short) Ls hit
   obtain ⟨p,hpe⟩:∃ x,pt Ls i = x:=⟨_,rfl⟩
   rw [hpe] at x0 x1 x2 HNX HPLi HSHi
   clear hpe HPL HSH
   have z0:=(HK.out.at (List.mem_singleton.2 rfl)) 0 _ rfl
   have z1:=(HK.out.at (List.mem_singleton.2 rfl)) 1 _ rfl
   have z2:=(HK.out.at (List.mem_singleton.2 rfl)) 2 _ rfl
   have hbl:=World.block_lt_of_cell? _ _ z0
   dsimp only at hbl
   obtain ⟨r,hr⟩:∃ x,(p.cross q).short = x:=⟨_,rfl⟩
   rw [hr] at HSHi HNX
   obtain ⟨cr9,hcr⟩:∃ x,p.cross q = x:=⟨_,rfl⟩
   rw [hcr] at HPLi HSHi
   clear hcr
   clear hr
   go_wp2_with (fail)
   refine Calls.mono (HPLi.out _) ?_
   rintro e V2 ⟨rfl,hb⟩
   have HK:Hid _:=HK.out.step (b_step (n_after wr _) hb)
   clear hb x0 x1 x2 z0 z1 z2 hbl HPLi
   go_wp2_with (fail)
   refine Calls.mono (HSHi.out _) ?_
   rintro e V3 ⟨rfl,hb⟩
   have HK:Hid _:=HK.out.step hb
   clear hb HSHi
   go_wp2_with (at_builtin;refine wpList_append_own_at _ rfl _ _ 24 rfl w0.heap.size 23 i0 _ 3 24 Tryz.underlying24 HI.out.1 HI.out.2.1 HI.out.2.2.1 HI.out.2.2.2 rfl (by decide) _ _ _ rfl (own_below HK.out.own (n_after V3 _)) ⟨V3.heap.size,0,none⟩ 1 1 [.int .i64 r.x,.int .i64 r.y,.int .i64 r.z] rfl rfl (news_at (heap_alloc_new V3 _)) (by intro u hu;simp at hu;rcases hu with rfl | rfl | rfl <;> rfl) (by unfold maxLen;omega) (by omega) (by have:=HK.out.hx;simp;omega) ?_;intro u9 V9 r8 g8 _ s8;have HK9:Hid _:=CK.app r (HK.out.step (n_after V3 _)) r8 (grewOf g8 s8);obtain ⟨o9,c9,e9⟩:=rowp_form HK9.out.own;subst e9;clear r8 g8 s8)
   go_roundg (Ls.length - (i + 1))
   case measure=>have:=HG.out;omega
   case rel=>exact ⟨i + 1,o9,c9,X ++ [r],by rw [List.length_append];rfl,by go_num,by omega,by rw [List.length_append];simp;omega,rfl,HK9,by show _ = _;rw [HNX.out,HE.out]⟩
  ·obtain rfl:i = Ls.length:=by omega
   have HE:Hid (X = Ls.map (fun e=>(e.cross q).short)):=by show _ = _;rw [HE.out,List.take_length]
   go_wp2_with (fail)
   exact bodyPost_ret (v:=.slice o2 X.length c2) (by simp [results,Tryz.results73,go_sem]) rfl ⟨_,rfl,by show Row _ _ _ _;rw [<- HE.out];exact ⟨HK.out.own,HK.out.below⟩⟩
theorem wdirs_any (A B:List Pt) (va vb:Value) (w0:World) (hA:Lies w0 va A) (hB:Lies w0 vb B) (hN:A.length + B.length <= 1048576) :
  Calls Tryz.prog 72 #[va,vb] w0 fun e W=>∃ u,e = .returned u/\Row w0 W u (keepD (A ++ B)):=by
 have HCC:Hid _:=fun (g:Nat) (w':World) (h:Below w0.heap.size w0 w') (hc:Cel w' g [va,vb])=>wconcat_any A B va vb g w' (hA.below h) (hB.below h) hc hN
 obtain ⟨i0,h1,h2,h3,h4⟩:=info_parts point_info
 have HI:Hid _:=And.intro h1 (And.intro h2 (And.intro h3 h4))
 clear h1 h2 h3 h4
 obtain ⟨M,hM⟩:∃ M,A ++ B = M:=⟨_,rfl⟩
 have hMN:M.length <= 1048576:=by rw [<- hM,List.length_append];exact hN
 rw [hM] at HCC ⊢
 clear hM hN
 obtain ⟨oa,ca,rfl,_⟩:=hA.form
 obtain ⟨ob,cb,rfl,_⟩:=hB.form
 obtain ⟨W1,hW1⟩:∃ V,V = w0.alloc (.cells #[.slice oa A.length ca,.slice ob B.length cb] 24):=⟨_,rfl⟩
 have hb1:Below w0.heap.size w0 W1:=by rw [hW1];exact n_after _ _
 have CV:Cel W1 w0.heap.size [.slice oa A.length ca,.slice ob B.length cb]:=by rw [hW1];exact Cel.new w0 [.slice oa A.length ca,.slice ob B.length cb] _
 have HCL:Hid _:=HCC.out w0.heap.size W1 hb1 CV
 have HB:Hid _:=hb1
 clear HCC hA hB hb1 CV
 go_enter Tryz.func72,Tryz.ntmps72
 go_wp2_with (fail)
 rw [<- hW1]
 clear hW1
 refine Calls.mono HCL.out ?_
 rintro e V1 ⟨u,rfl,hrow,hb⟩
 have HK:Hid (CK w0 V1 w0.heap.size [] (.slice none 0 0) [] u M):=⟨b_step HB.out hb,(fun p hp=>by cases hp),Nat.le_refl _,Nat.le_trans HB.out.size hb.size,World.ownsRow_nil _ _ _ _,own_le hrow HB.out.size,(fun k e e2=>by cases e2)⟩
 obtain ⟨o,c,e1⟩:=rowp_form hrow
 subst e1
 clear hrow hb HB HCL
 go_wp2_with (fail)
 go_loopg [5,13] M.length (fun gm s5 s13 wr=>∃ (i:Nat) (o2:Option Addr) (c2:Nat) (X:List Pt),s5 = .slice o2 X.length c2/\s13 = .int .i64 (i:Int)/\i <= M.length/\X.length <= 128/\Hid (gm = M.length - i)/\Hid (CK w0 wr w0.heap.size [] (.slice o2 X.length c2) X (.slice o M.length c) M)/\Hid (X = keepD (M.take i)))
 case atStart=>exact ⟨0,none,0,[],rfl,rfl,Nat.zero_le _,by simp,rfl,HK,by show _ = _;simp [keepD]⟩
 case round =>
  clear HK
  obtain ⟨i,o2,c2,X,rfl,rfl,hi9,hX9,HG,HK,HE⟩:=hrel
  by_cases hit:i < M.length
  ·obtain ⟨o',cap',e',_,_,hcl⟩:=(Lies.of_row HK.out.two).form
   cases e'
   obtain ⟨ge,fe,rfl,x0,x1,x2⟩:=hcl i hit
   clear hcl
   have HN0:Hid (pt M i = Pt.O->keepD (M.take (i + 1)) = X):=fun h=>by rw [HE.out];exact keep_no hit h
   have HN1:Hid (pt M i ≠ Pt.O->X.length < 128->keepD (M.take (i + 1)) = X ++ [pt M i]):=fun h h'=>by rw [HE.out] at h' ⊢;exact keep_add hit h h'
   have HN2:Hid (pt M i ≠ Pt.O->¬ X.length < 128->keepD (M.take (i + 1)) = X):=fun h h'=>by rw [HE.out] at h' ⊢;exact keep_full hit h h'
   obtain ⟨p,hpe⟩:∃ x,pt M i = x:=⟨_,rfl⟩
   rw [hpe] at x0 x1 x2 HN0 HN1 HN2
   clear hpe HE
   obtain ⟨qx,qy,qz⟩:=p
   dsimp only at x0 x1 x2
   obtain ⟨V8,hV8⟩:∃ W,W = wr.alloc (.cells #[.int .i64 qx,.int .i64 qy,.int .i64 qz] 23):=⟨_,rfl⟩
   obtain ⟨nb,hnb⟩:∃ b,b = wr.heap.size:=⟨_,rfl⟩
   have HB8:Hid (Box3 V8 nb ⟨qx,qy,qz⟩):=by show Box3 _ _ _;rw [hV8,hnb];exact Box3.new wr qx qy qz _
   have HK:Hid _:=HK.out.step (n_after wr (.cells #[.int .i64 qx,.int .i64 qy,.int .i64 qz] 23))
   rw [<- hV8] at HK
   have hl1:(i:Int) < (M.length:Int):=by omega
   go_upto_region 5 with fail
   rw [<- hV8,<- hnb]
   clear hV8 hnb x0 x1 x2
   obtain ⟨d0,d1,d2,_,_,_⟩:=HB8.out
   dsimp only at d0 d1 d2
   by_cases hz:(⟨qx,qy,qz⟩:Pt) = Pt.O
   ·have HE9:Hid _:=HN0.out hz
    have e3:qx = 0/\qy = 0/\qz = 0:=by simpa [Pt.O] using hz
    obtain ⟨rfl,rfl,rfl⟩:=e3
    clear HN0 HN1 HN2 hz
    go_wp2_with (fail)
    clear d0 d1 d2
    go_roundg (M.length - (i + 1))
    case measure=>have:=HG.out;omega
    case rel=>exact ⟨i + 1,o2,c2,X,rfl,by go_num,by omega,by omega,rfl,HK,by show _ = _;rw [HE9.out]⟩
   ·have hz3:qx = 0->qy = 0->¬ qz = 0:=fun a b c=>hz (by rw [a,b,c];rfl)
    by_cases hlen:X.length < 128
    ·have HE9:Hid _:=HN1.out hz hlen
     have hl8:(X.length:Int) < 128:=by omega
     clear HN0 HN1 HN2 hz hlen
     go_cut [24] from 16 to 25 (fun s24 wx=>s24 = .bool true/\wx = V8)
     case first =>
      go_wp2_with (fail)
      all_goals first
       | (exfalso;exact hz3 (by assumption) (by assumption) (by assumption))
       | (go_meet;case rel=>exact ⟨rfl,rfl⟩)
     case rest =>
      obtain ⟨rfl,e9⟩:=hcut
      rw [e9]
      clear hz3 e9
      go_wp2_with (at_builtin;refine wpList_append_own_at _ rfl _ _ 24 rfl w0.heap.size 23 i0 _ 3 24 Tryz.underlying24 HI.out.1 HI.out.2.1 HI.out.2.2.1 HI.out.2.2.2 rfl (by decide) _ _ _ rfl (own_below HK.out.own (n_after V8 _)) ⟨V8.heap.size,0,none⟩ 1 1 [.int .i64 qx,.int .i64 qy,.int .i64 qz] rfl rfl (news_at (heap_alloc_new V8 _)) (by intro u hu;simp at hu;rcases hu with rfl | rfl | rfl <;> rfl) (by unfold maxLen;omega) (by omega) (by have:=HK.out.hx;simp;omega) ?_;intro u9 V9 r8 g8 _ s8;have HK9:Hid _:=CK.app ⟨qx,qy,qz⟩ (HK.out.step (n_after V8 _)) r8 (grewOf g8 s8);obtain ⟨o9,c9,e9⟩:=rowp_form HK9.out.own;subst e9;clear r8 g8 s8)
      clear d0 d1 d2
      go_roundg (M.length - (i + 1))
      case measure=>have:=HG.out;omega
      case rel=>exact ⟨i + 1,o9,c9,X ++ [⟨qx,qy,qz⟩],by rw [List.length_append];rfl,by go_num,by omega,by rw [List.length_append];simp;omega,rfl,HK9,by show _ = _;rw [HE9.out]⟩
    ·have HE9:Hid _:=HN2.out hz hlen
     have hl8:¬ (X.length:Int) < 128:=by omega
     clear HN0 HN1 HN2 hz hlen
     go_cut [24] from 16 to 25 (fun s24 wx=>s24 = .bool false/\wx = V8)
     case first =>
      go_wp2_with (fail)
      all_goals first
       | (exfalso;exact hz3 (by assumption) (by assumption) (by assumption))
       | (go_meet;case rel=>exact ⟨rfl,rfl⟩)
     case rest =>
      obtain ⟨rfl,e9⟩:=hcut
      rw [e9]
      clear hz3 e9 d0 d1 d2
      go_wp2_with (fail)
      go_roundg (M.length - (i + 1))
      case measure=>have:=HG.out;omega
      case rel=>exact ⟨i + 1,o2,c2,X,rfl,by go_num,by omega,by omega,rfl,HK,by show _ = _;rw [HE9.out]⟩
  ·obtain rfl:i = M.length:=by omega
   have HE:Hid (X = keepD M):=by show _ = _;rw [HE.out,List.take_length]
   go_wp2_with (fail)
   exact bodyPost_ret (v:=.slice o2 X.length c2) (by simp [results,Tryz.results72,go_sem]) rfl ⟨_,rfl,by show Row _ _ _ _;rw [<- HE.out];exact ⟨HK.out.own,HK.out.below⟩⟩
end
end Go.Proofs.YtgbofpbidbhleaaGreat
