/- Package sweep: lists of points: slices.Concat, moved, acrossEach, directions. -/
import Derived.Test.YtablgiflakncfaaGreatBBW5
import Derived.Test.YtablgiflakncfaaGreatBBW9
import Derived.Test.YtablgiflakncfaaGreatBBW1
import Derived.Lib.AppendZeros
import Derived.Test.YtablgiflakncfaaGreatBBW0
set_option maxHeartbeats 16000000
set_option maxRecDepth 100000
set_option linter.unusedVariables false
namespace Go.Proofs.YtablgiflakncfaaGreat
section
open Go.RowKit Go.Shelf
theorem CK.one (w0:World) (l1:List Value) (t1:TypeId):CK w0 (w0.alloc (.cells l1.toArray t1)) w0.heap.size [(w0.heap.size,l1)] (.slice none 0 0) [] (.slice none 0 0) []:=by
 refine ⟨n_after _ _,fun p hp=>?_,Nat.le_refl _,by simp,World.ownsRow_nil _ _ _ _,World.ownsRow_nil _ _ _ _,fun k e=>by cases e⟩
 rw [List.mem_singleton.1 hp]
 exact ⟨by simp,(fun e=>by cases e),(fun e=>by cases e),Cel.new _ _ _⟩
theorem keep_no {M:List Pt} {i:Nat} (h:i < M.length) (hz:pt M i = Pt.O):keepD (M.take (i + 1)) = keepD (M.take i):=by
 unfold keepD
 rw [take_pt h,List.filter_append,hz]
 simp
theorem keep_add {M:List Pt} {i:Nat} (h:i < M.length) (hz:pt M i ≠ Pt.O) (hl:(keepD (M.take i)).length < 128):keepD (M.take (i + 1)) = keepD (M.take i) ++ [pt M i]:=by
 unfold keepD at *
 rw [take_pt h,List.filter_append]
 have e:List.filter (fun p=>decide (p ≠ Pt.O)) [pt M i] = [pt M i]:=by simp [hz]
 rw [e]
 rw [List.length_take] at hl
 rw [List.take_append,List.take_of_length_le (l:=[pt M i]) (by show 1 <= 128 - (List.filter (fun p=>decide (p ≠ Pt.O)) (List.take i M)).length;omega)]
theorem keep_full {M:List Pt} {i:Nat} (h:i < M.length) (hz:pt M i ≠ Pt.O) (hl:¬ (keepD (M.take i)).length < 128):keepD (M.take (i + 1)) = keepD (M.take i):=by
 unfold keepD at *
 rw [take_pt h,List.filter_append]
 rw [List.length_take] at hl
 rw [List.take_append_of_le_length (by omega)]
theorem wgrow_any (n:Nat) (w:World) (hn:n <= 1048576) :
  Calls Tryz.prog 116 #[.slice none 0 0,.int .i64 (n:Int)] w fun e W=>∃ u,e = .returned u/\W.ownsRow w.heap.size 45 3 u 0 []/\Below w.heap.size w W:=by
 by_cases h0:n = 0
 ·subst h0
  go_enter Tryz.func116,Tryz.ntmps116
  go_wp2
  go_ret
  exact ⟨_,rfl,World.ownsRow_nil _ _ _ _,Below.refl _ _⟩
 ·obtain ⟨i0,hii,hiz,hisz,hib⟩:=info_parts point_info
  obtain ⟨G,hG⟩:∃ G,G = grownCap w n 0 45:=⟨_,rfl⟩
  obtain ⟨ROW,hROW⟩:∃ ROW:Array Value,ROW = Builtin.zeroCells (Value.agg #[.int .i64 0,.int .i64 0,.int .i64 0]).cells n ++ Builtin.zeroCells (Value.agg #[.int .i64 0,.int .i64 0,.int .i64 0]).cells (G - n):=⟨_,rfl⟩
  have hrz:∀ ty,(Builtin.append_ #[26,3] ty #[.slice none 0 0,.int .i64 (n:Int)]).run Tryz.prog w = .ok (.slice (some ⟨w.heap.size,0,none⟩) n G) (w.drew.alloc (.cells ROW 45)):=fun ty=>by
   have h:=Lib.run_append_nil_zeros (P:=Tryz.prog) w 26 3 ty 45 i0 _ .i64 .i64 Tryz.underlying26 Tryz.underlying3 hii hiz n (by omega) (by omega) (by omega) (by rw [hib];omega)
   rw [<- hG,<- hROW] at h
   exact h
  have hGn:n <= G:=by rw [hG];exact grownCap_ge w _ _ _
  have hGm:G <= maxLen:=by rw [hG];exact grownCap_le_maxLen w n 0 _ (by unfold maxLen;omega)
  have hRs:ROW.size = G * 3:=by
   rw [hROW]
   simp only [Array.size_append,size_zeroCells]
   simp [Value.cells]
   omega
  obtain ⟨W1,hW1⟩:∃ W1,W1 = w.drew.alloc (.cells ROW 45):=⟨_,rfl⟩
  have hg1:W1.heap[w.heap.size]? = some (.cells ROW 45 (0,0)):=by rw [hW1];exact heap_alloc_new w.drew _
  have HF:Hid (W1.ownsRow w.heap.size 45 3 (.slice (some ⟨w.heap.size,0,none⟩) 0 G) 0 []/\Below w.heap.size w W1):=⟨⟨rfl,Or.inr ⟨w.heap.size,G,ROW,rfl,Nat.le_refl _,hg1,Nat.zero_le _,hGm,hRs,by simp⟩⟩,by rw [hW1];exact (Below.refl _ w).drew.alloc (Nat.le_refl _) _⟩
  rw [<- hW1] at hrz
  have h1:¬ ((n:Int) < 0):=by omega
  have h2:(0:Int) < (n:Int):=by omega
  have h3:IntKind.i64.wrap (n:Int) = n:=by rw [IntKind.wrap_i64];omega
  have hb6:¬ (G = 0):=by omega
  have hG63:G <= 9223372036854775807:=by unfold maxLen at hGm;omega
  have HR:Hid _:=hrz
  clear hW1 hg1 hRs hGm hROW hG hii hiz hisz hib h0 hrz
  go_enter Tryz.func116,Tryz.ntmps116
  go_wp2_with (at_builtin;refine Lib.wpList_append_run _ rfl _ _ _ _ rfl _ _ rfl rfl _ _ (HR.out _) ?_)
  go_ret
  exact ⟨_,rfl,HF.out⟩
theorem wconcat_any (A B:List Pt) (va vb:Value) (g:Nat) (w0:World) (hA:Lies w0 va A) (hB:Lies w0 vb B) (hc:Cel w0 g [va,vb]) (hN:A.length + B.length <= 1048576) :
  Calls Tryz.prog 77 #[.slice (some ⟨g,0,none⟩) 2 2] w0 fun e W=>∃ u,e = .returned u/\Row w0 W u (A ++ B):=by
 have LA:Hid _:=hA
 have LB:Hid _:=hB
 obtain ⟨oa,ca,rfl,_⟩:=hA.form
 obtain ⟨ob,cb,rfl,_⟩:=hB.form
 have HC:Hid _:=hc
 have HG:Hid _:=fun w'=>wgrow_any (A.length + B.length) w' hN
 rw [Int.natCast_add] at HG
 clear hA hB hc
 have wa:IntKind.i64.wrap (A.length:Int) = A.length:=by rw [IntKind.wrap_i64];omega
 have wab:IntKind.i64.wrap ((A.length:Int) + (B.length:Int)) = (A.length:Int) + (B.length:Int):=by rw [IntKind.wrap_i64];omega
 have na:¬ ((A.length:Int) < 0):=by omega
 have nab:¬ ((A.length:Int) + (B.length:Int) < 0):=by omega
 have x0:=HC.out 0 _ rfl
 have x1:=HC.out 1 _ rfl
 go_enter Tryz.func77,Tryz.ntmps77
 go_wp2_with (fail)
 go_loopg [3,11] 2 (fun gm s3 s11 wr=>Hid (gm = 2/\s3 = .int .i64 0/\s11 = .int .i64 0 \/ gm = 1/\s3 = .int .i64 (A.length:Int)/\s11 = .int .i64 1 \/ gm = 0/\s3 = .int .i64 ((A.length:Int) + (B.length:Int))/\s11 = .int .i64 2)/\wr = w0)
 case atStart=>exact ⟨Or.inl ⟨rfl,rfl,rfl⟩,rfl⟩
 case round =>
  obtain ⟨HR,hwr⟩:=hrel
  rw [hwr]
  clear hwr
  rcases HR.out with ⟨rfl,rfl,rfl⟩ | ⟨rfl,rfl,rfl⟩ | ⟨rfl,rfl,rfl⟩
  ·clear HR x1
   go_wp2_with (fail)
   go_roundg 1
   case rel=>exact ⟨Or.inr (Or.inl ⟨rfl,rfl,rfl⟩),rfl⟩
   case measure=>omega
  ·clear HR x0
   go_wp2_with (fail)
   go_roundg 0
   case rel=>exact ⟨Or.inr (Or.inr ⟨rfl,rfl,rfl⟩),rfl⟩
   case measure=>omega
  ·clear HR x0 x1
   go_wp2_with (fail)
   refine Calls.mono (HG.out _) ?_
   rintro e W1 ⟨u,rfl,hr,hb⟩
   have HK:Hid (CK w0 W1 w0.heap.size [(g,[.slice oa A.length ca,.slice ob B.length cb])] u [] (.slice none 0 0) []):=by
    refine ⟨hb,fun p hp=>?_,Nat.le_refl _,hb.size,hr,World.ownsRow_nil _ _ _ _,fun k e=>by cases e⟩
    rw [List.mem_singleton.1 hp]
    have hg:=Cel.lt HC.out
    exact ⟨Nat.lt_of_lt_of_le hg hb.size,(fun e=>by have:=(hr.lt _ e).1;omega),(fun e=>by cases e),Cel.step HC.out hb⟩
   obtain ⟨o1,c1,e1⟩:=rowp_form hr
   subst e1
   clear hr hb HC HG wa wab na nab
   go_wp2_with (fail)
   go_loopg [6,27] 2 (fun gm s6 s27 wr2=>∃ (o2:Option Addr) (c2:Nat) (X:List Pt),s6 = .slice o2 X.length c2/\Hid (CK w0 wr2 w0.heap.size [(g,[.slice oa A.length ca,.slice ob B.length cb])] (.slice o2 X.length c2) X (.slice none 0 0) [])/\Hid (gm = 2/\X = []/\s27 = .int .i64 0 \/ gm = 1/\X = A/\s27 = .int .i64 1 \/ gm = 0/\X = A ++ B/\s27 = .int .i64 2))
   case atStart=>exact ⟨o1,c1,[],rfl,HK,Or.inl ⟨rfl,rfl,rfl⟩⟩
   case round =>
    clear HK
    obtain ⟨o2,c2,X,rfl,HK,HR⟩:=hrel
    have x0:=(HK.out.at (List.mem_singleton.2 rfl)) 0 _ rfl
    have x1:=(HK.out.at (List.mem_singleton.2 rfl)) 1 _ rfl
    rcases HR.out with ⟨rfl,rfl,rfl⟩ | ⟨rfl,rfl,rfl⟩ | ⟨rfl,rfl,rfl⟩
    ·clear HR x1
     go_wp2_with (at_builtin;refine append_lies rfl _ _ rfl w0.heap.size _ [] rfl HK.out.own _ A rfl (LA.out.below HK.out.below) (by first | omega | (simp;omega)) HK.out.hx ?_;intro u9 V9 r8 g8 s8;have HK9:Hid _:=HK.out.grew r8 (grewOf g8 s8);obtain ⟨o9,c9,e9⟩:=rowp_form HK9.out.own;subst e9;clear r8 g8 s8)
     clear x0
     go_roundg 1
     case rel=>exact ⟨o9,c9,A,rfl,HK9,Or.inr (Or.inl ⟨rfl,rfl,rfl⟩)⟩
     case measure=>omega
    ·clear HR x0
     go_wp2_with (at_builtin;refine append_lies rfl _ _ rfl w0.heap.size _ X rfl HK.out.own _ B rfl (LB.out.below HK.out.below) (by first | omega | (simp;omega)) HK.out.hx ?_;intro u9 V9 r8 g8 s8;have HK9:Hid _:=HK.out.grew r8 (grewOf g8 s8);obtain ⟨o9,c9,e9⟩:=rowp_form HK9.out.own;subst e9;clear r8 g8 s8)
     clear x1
     go_roundg 0
     case rel=>exact ⟨o9,c9,X ++ B,by rw [List.length_append],HK9,Or.inr (Or.inr ⟨rfl,rfl,rfl⟩)⟩
     case measure=>omega
    ·clear HR x0 x1
     go_wp2_with (fail)
     go_ret
     exact ⟨_,rfl,HK.out.own,HK.out.below⟩
theorem wmoved_any (Ls:List Pt) (q:Pt) (v:Value) (w0:World) (hv:Lies w0 v Ls) (hP:∀ p ∈ Ls,p.inB 1152921504606846976 = true) (hq:q.inB 1152921504606846976 = true) (hN:Ls.length <= 1048576) :
  Calls Tryz.prog 38 #[v,q.v] w0 fun e W=>∃ u,e = .returned u/\Row w0 W u (Ls.map (·.mov q)):=by
 have HPL:Hid _:=fun (p:Pt) (hp:p ∈ Ls) (w':World)=>wplus_any p q w' (hP p hp) hq
 have HV:Hid _:=hv
 obtain ⟨o,cap,rfl,hlc,hcm,_⟩:=hv.form
 obtain ⟨i0,h1,h2,h3,h4⟩:=info_parts point_info
 have HI:Hid _:=And.intro h1 (And.intro h2 (And.intro h3 h4))
 clear hv hP hq h1 h2 h3 h4
 obtain ⟨W1,hW1⟩:∃ V,V = w0.alloc (.cells #[.int .i64 q.x,.int .i64 q.y,.int .i64 q.z] 45):=⟨_,rfl⟩
 obtain ⟨bb,hbb⟩:∃ b,b = w0.heap.size:=⟨_,rfl⟩
 have HK:Hid (CK w0 W1 w0.heap.size [(bb,[.int .i64 q.x,.int .i64 q.y,.int .i64 q.z])] (.slice none 0 0) [] (.slice none 0 0) []):=by show CK _ _ _ _ _ _ _ _;rw [hW1,hbb];exact CK.one w0 [.int .i64 q.x,.int .i64 q.y,.int .i64 q.z] _
 unfold Pt.v at *
 go_enter Tryz.func38,Tryz.ntmps38
 go_upto_region 1 with fail
 rw [<- hW1,<- hbb]
 clear hW1 hbb
 go_wp2_with (fail)
 go_loopg [5,10] Ls.length (fun gm s5 s10 wr=>∃ (i:Nat) (o2:Option Addr) (c2:Nat) (X:List Pt),s5 = .slice o2 X.length c2/\s10 = .int .i64 (i:Int)/\i <= Ls.length/\X.length <= i/\Hid (gm = Ls.length - i)/\Hid (CK w0 wr w0.heap.size [(bb,[.int .i64 q.x,.int .i64 q.y,.int .i64 q.z])] (.slice o2 X.length c2) X (.slice none 0 0) [])/\Hid (X = (Ls.take i).map (·.mov q)))
 case atStart=>exact ⟨0,none,0,[],rfl,rfl,Nat.zero_le _,Nat.le_refl _,rfl,HK,by show _ = _;simp⟩
 case round =>
  clear HK
  obtain ⟨i,o2,c2,X,rfl,rfl,hi9,hX9,HG,HK,HE⟩:=hrel
  by_cases hit:i < Ls.length
  ·obtain ⟨o',cap',e',_,_,hcl⟩:=(HV.out.below HK.out.below).form
   cases e'
   obtain ⟨ge,fe,rfl,x0,x1,x2⟩:=hcl i hit
   clear hcl
   have HPLi:Hid _:=HPL.out (pt Ls i) (pt_mem hit)
   have HNX:Hid _:=map_take (·.mov q) Ls hit
   obtain ⟨p,hpe⟩:∃ x,pt Ls i = x:=⟨_,rfl⟩
   rw [hpe] at x0 x1 x2 HNX HPLi
   clear hpe HPL
   have z0:=(HK.out.at (List.mem_singleton.2 rfl)) 0 _ rfl
   have z1:=(HK.out.at (List.mem_singleton.2 rfl)) 1 _ rfl
   have z2:=(HK.out.at (List.mem_singleton.2 rfl)) 2 _ rfl
   have hbl:=World.block_lt_of_cell? _ _ z0
   dsimp only at hbl
   obtain ⟨r,hr⟩:∃ x,p.mov q = x:=⟨_,rfl⟩
   rw [hr] at HPLi HNX
   clear hr
   go_wp2_with (fail)
   refine Calls.mono (HPLi.out _) ?_
   rintro e V2 ⟨rfl,hb⟩
   have HK:Hid _:=HK.out.step (b_step (n_after wr _) hb)
   clear hb x0 x1 x2 z0 z1 z2 hbl HPLi
   go_wp2_with (at_builtin;refine wpList_append_own_at _ rfl _ _ 26 rfl w0.heap.size 45 i0 _ 3 24 Tryz.underlying26 HI.out.1 HI.out.2.1 HI.out.2.2.1 HI.out.2.2.2 rfl (by decide) _ _ _ rfl (own_below HK.out.own (n_after V2 _)) ⟨V2.heap.size,0,none⟩ 1 1 [.int .i64 r.x,.int .i64 r.y,.int .i64 r.z] rfl rfl (news_at (heap_alloc_new V2 _)) (by intro u hu;simp at hu;rcases hu with rfl | rfl | rfl <;> rfl) (by unfold maxLen;omega) (by omega) (by have:=HK.out.hx;simp;omega) ?_;intro u9 V9 r8 g8 _ s8;have HK9:Hid _:=CK.app r (HK.out.step (n_after V2 _)) r8 (grewOf g8 s8);obtain ⟨o9,c9,e9⟩:=rowp_form HK9.out.own;subst e9;clear r8 g8 s8)
   go_roundg (Ls.length - (i + 1))
   case measure=>have:=HG.out;omega
   case rel=>exact ⟨i + 1,o9,c9,X ++ [r],by rw [List.length_append];rfl,by go_num,by omega,by rw [List.length_append];simp;omega,rfl,HK9,by show _ = _;rw [HNX.out,HE.out]⟩
  ·obtain rfl:i = Ls.length:=by omega
   have HE:Hid (X = Ls.map (·.mov q)):=by show _ = _;rw [HE.out,List.take_length]
   go_wp2_with (fail)
   exact bodyPost_ret (v:=.slice o2 X.length c2) (by simp [results,Tryz.results38,go_sem]) rfl ⟨_,rfl,by show Row _ _ _ _;rw [<- HE.out];exact ⟨HK.out.own,HK.out.below⟩⟩
theorem wacross_any (Ls:List Pt) (q:Pt) (v:Value) (w0:World) (hv:Lies w0 v Ls) (hP:∀ p ∈ Ls,p.inB 1048576 = true) (hq:q.inB 1048576 = true) (hN:Ls.length <= 1048576) :
  Calls Tryz.prog 80 #[v,q.v] w0 fun e W=>∃ u,e = .returned u/\Row w0 W u (Ls.map (fun e=>(e.cross q).short)):=by
 have HPL:Hid _:=fun (p:Pt) (hp:p ∈ Ls) (w':World)=>wcross_any p q w' (hP p hp) hq
 have HSH:Hid _:=fun (p:Pt) (hp:p ∈ Ls) (w':World)=>short_any (p.cross q) w'
 have HV:Hid _:=hv
 obtain ⟨o,cap,rfl,hlc,hcm,_⟩:=hv.form
 obtain ⟨i0,h1,h2,h3,h4⟩:=info_parts point_info
 have HI:Hid _:=And.intro h1 (And.intro h2 (And.intro h3 h4))
 clear hv hP hq h1 h2 h3 h4
 obtain ⟨W1,hW1⟩:∃ V,V = w0.alloc (.cells #[.int .i64 q.x,.int .i64 q.y,.int .i64 q.z] 45):=⟨_,rfl⟩
 obtain ⟨bb,hbb⟩:∃ b,b = w0.heap.size:=⟨_,rfl⟩
 have HK:Hid (CK w0 W1 w0.heap.size [(bb,[.int .i64 q.x,.int .i64 q.y,.int .i64 q.z])] (.slice none 0 0) [] (.slice none 0 0) []):=by show CK _ _ _ _ _ _ _ _;rw [hW1,hbb];exact CK.one w0 [.int .i64 q.x,.int .i64 q.y,.int .i64 q.z] _
 unfold Pt.v at *
 go_enter Tryz.func80,Tryz.ntmps80
 go_upto_region 1 with fail
 rw [<- hW1,<- hbb]
 clear hW1 hbb
 go_wp2_with (fail)
 go_loopg [5,10] Ls.length (fun gm s5 s10 wr=>∃ (i:Nat) (o2:Option Addr) (c2:Nat) (X:List Pt),s5 = .slice o2 X.length c2/\s10 = .int .i64 (i:Int)/\i <= Ls.length/\X.length <= i/\Hid (gm = Ls.length - i)/\Hid (CK w0 wr w0.heap.size [(bb,[.int .i64 q.x,.int .i64 q.y,.int .i64 q.z])] (.slice o2 X.length c2) X (.slice none 0 0) [])/\Hid (X = (Ls.take i).map (fun e=>(e.cross q).short)))
 case atStart=>exact ⟨0,none,0,[],rfl,rfl,Nat.zero_le _,Nat.le_refl _,rfl,HK,by show _ = _;simp⟩
 case round =>
  clear HK
  obtain ⟨i,o2,c2,X,rfl,rfl,hi9,hX9,HG,HK,HE⟩:=hrel
  by_cases hit:i < Ls.length
  ·obtain ⟨o',cap',e',_,_,hcl⟩:=(HV.out.below HK.out.below).form
   cases e'
   obtain ⟨ge,fe,rfl,x0,x1,x2⟩:=hcl i hit
   clear hcl
   have HPLi:Hid _:=HPL.out (pt Ls i) (pt_mem hit)
   have HSHi:Hid _:=HSH.out (pt Ls i) (pt_mem hit)
   have HNX:Hid _:=map_take (fun e=>(e.cross q).short) Ls hit
   obtain ⟨p,hpe⟩:∃ x,pt Ls i = x:=⟨_,rfl⟩
   rw [hpe] at x0 x1 x2 HNX HPLi HSHi
   clear hpe HPL HSH
   have z0:=(HK.out.at (List.mem_singleton.2 rfl)) 0 _ rfl
   have z1:=(HK.out.at (List.mem_singleton.2 rfl)) 1 _ rfl
   have z2:=(HK.out.at (List.mem_singleton.2 rfl)) 2 _ rfl
   have hbl:=World.block_lt_of_cell? _ _ z0
   dsimp only at hbl
   obtain ⟨r,hr⟩:∃ x,(p.cross q).short = x:=⟨_,rfl⟩
   rw [hr] at HSHi HNX
   obtain ⟨cr9,hcr⟩:∃ x,p.cross q = x:=⟨_,rfl⟩
   rw [hcr] at HPLi HSHi
   clear hcr
   clear hr
   go_wp2_with (fail)
   refine Calls.mono (HPLi.out _) ?_
   rintro e V2 ⟨rfl,hb⟩
   have HK:Hid _:=HK.out.step (b_step (n_after wr _) hb)
   clear hb x0 x1 x2 z0 z1 z2 hbl HPLi
   go_wp2_with (fail)
   refine Calls.mono (HSHi.out _) ?_
   rintro e V3 ⟨rfl,hb⟩
   have HK:Hid _:=HK.out.step hb
   clear hb HSHi
   go_wp2_with (at_builtin;refine wpList_append_own_at _ rfl _ _ 26 rfl w0.heap.size 45 i0 _ 3 24 Tryz.underlying26 HI.out.1 HI.out.2.1 HI.out.2.2.1 HI.out.2.2.2 rfl (by decide) _ _ _ rfl (own_below HK.out.own (n_after V3 _)) ⟨V3.heap.size,0,none⟩ 1 1 [.int .i64 r.x,.int .i64 r.y,.int .i64 r.z] rfl rfl (news_at (heap_alloc_new V3 _)) (by intro u hu;simp at hu;rcases hu with rfl | rfl | rfl <;> rfl) (by unfold maxLen;omega) (by omega) (by have:=HK.out.hx;simp;omega) ?_;intro u9 V9 r8 g8 _ s8;have HK9:Hid _:=CK.app r (HK.out.step (n_after V3 _)) r8 (grewOf g8 s8);obtain ⟨o9,c9,e9⟩:=rowp_form HK9.out.own;subst e9;clear r8 g8 s8)
   go_roundg (Ls.length - (i + 1))
   case measure=>have:=HG.out;omega
   case rel=>exact ⟨i + 1,o9,c9,X ++ [r],by rw [List.length_append];rfl,by go_num,by omega,by rw [List.length_append];simp;omega,rfl,HK9,by show _ = _;rw [HNX.out,HE.out]⟩
  ·obtain rfl:i = Ls.length:=by omega
   have HE:Hid (X = Ls.map (fun e=>(e.cross q).short)):=by show _ = _;rw [HE.out,List.take_length]
   go_wp2_with (fail)
   exact bodyPost_ret (v:=.slice o2 X.length c2) (by simp [results,Tryz.results80,go_sem]) rfl ⟨_,rfl,by show Row _ _ _ _;rw [<- HE.out];exact ⟨HK.out.own,HK.out.below⟩⟩
theorem wdirs_any (A B:List Pt) (va vb:Value) (w0:World) (hA:Lies w0 va A) (hB:Lies w0 vb B) (hN:A.length + B.length <= 1048576) :
  Calls Tryz.prog 79 #[va,vb] w0 fun e W=>∃ u,e = .returned u/\Row w0 W u (keepD (A ++ B)):=by
 have HCC:Hid _:=fun (g:Nat) (w':World) (h:Below w0.heap.size w0 w') (hc:Cel w' g [va,vb])=>wconcat_any A B va vb g w' (hA.below h) (hB.below h) hc hN
 obtain ⟨i0,h1,h2,h3,h4⟩:=info_parts point_info
 have HI:Hid _:=And.intro h1 (And.intro h2 (And.intro h3 h4))
 clear h1 h2 h3 h4
 obtain ⟨M,hM⟩:∃ M,A ++ B = M:=⟨_,rfl⟩
 have hMN:M.length <= 1048576:=by rw [<- hM,List.length_append];exact hN
 rw [hM] at HCC ⊢
 clear hM hN
 obtain ⟨oa,ca,rfl,_⟩:=hA.form
 obtain ⟨ob,cb,rfl,_⟩:=hB.form
 obtain ⟨W1,hW1⟩:∃ V,V = w0.alloc (.cells #[.slice oa A.length ca,.slice ob B.length cb] 26):=⟨_,rfl⟩
 have hb1:Below w0.heap.size w0 W1:=by rw [hW1];exact n_after _ _
 have CV:Cel W1 w0.heap.size [.slice oa A.length ca,.slice ob B.length cb]:=by rw [hW1];exact Cel.new w0 [.slice oa A.length ca,.slice ob B.length cb] _
 have HCL:Hid _:=HCC.out w0.heap.size W1 hb1 CV
 have HB:Hid _:=hb1
 clear HCC hA hB hb1 CV
 go_enter Tryz.func79,Tryz.ntmps79
 go_wp2_with (fail)
 rw [<- hW1]
 clear hW1
 refine Calls.mono HCL.out ?_
 rintro e V1 ⟨u,rfl,hrow,hb⟩
 have HK:Hid (CK w0 V1 w0.heap.size [] (.slice none 0 0) [] u M):=⟨b_step HB.out hb,(fun p hp=>by cases hp),Nat.le_refl _,Nat.le_trans HB.out.size hb.size,World.ownsRow_nil _ _ _ _,own_le hrow HB.out.size,(fun k e e2=>by cases e2)⟩
 obtain ⟨o,c,e1⟩:=rowp_form hrow
 subst e1
 clear hrow hb HB HCL
 go_wp2_with (fail)
 go_loopg [5,13] M.length (fun gm s5 s13 wr=>∃ (i:Nat) (o2:Option Addr) (c2:Nat) (X:List Pt),s5 = .slice o2 X.length c2/\s13 = .int .i64 (i:Int)/\i <= M.length/\X.length <= 128/\Hid (gm = M.length - i)/\Hid (CK w0 wr w0.heap.size [] (.slice o2 X.length c2) X (.slice o M.length c) M)/\Hid (X = keepD (M.take i)))
 case atStart=>exact ⟨0,none,0,[],rfl,rfl,Nat.zero_le _,by simp,rfl,HK,by show _ = _;simp [keepD]⟩
 case round =>
  clear HK
  obtain ⟨i,o2,c2,X,rfl,rfl,hi9,hX9,HG,HK,HE⟩:=hrel
  by_cases hit:i < M.length
  ·obtain ⟨o',cap',e',_,_,hcl⟩:=(Lies.of_row HK.out.two).form
   cases e'
   obtain ⟨ge,fe,rfl,x0,x1,x2⟩:=hcl i hit
   clear hcl
   have HN0:Hid (pt M i = Pt.O->keepD (M.take (i + 1)) = X):=fun h=>by rw [HE.out];exact keep_no hit h
   have HN1:Hid (pt M i ≠ Pt.O->X.length < 128->keepD (M.take (i + 1)) = X ++ [pt M i]):=fun h h'=>by rw [HE.out] at h' ⊢;exact keep_add hit h h'
   have HN2:Hid (pt M i ≠ Pt.O->¬ X.length < 128->keepD (M.take (i + 1)) = X):=fun h h'=>by rw [HE.out] at h' ⊢;exact keep_full hit h h'
   obtain ⟨p,hpe⟩:∃ x,pt M i = x:=⟨_,rfl⟩
   rw [hpe] at x0 x1 x2 HN0 HN1 HN2
   clear hpe HE
   obtain ⟨qx,qy,qz⟩:=p
   dsimp only at x0 x1 x2
   obtain ⟨V8,hV8⟩:∃ W,W = wr.alloc (.cells #[.int .i64 qx,.int .i64 qy,.int .i64 qz] 45):=⟨_,rfl⟩
   obtain ⟨nb,hnb⟩:∃ b,b = wr.heap.size:=⟨_,rfl⟩
   have HB8:Hid (Box3 V8 nb ⟨qx,qy,qz⟩):=by show Box3 _ _ _;rw [hV8,hnb];exact Box3.new wr qx qy qz _
   have HK:Hid _:=HK.out.step (n_after wr (.cells #[.int .i64 qx,.int .i64 qy,.int .i64 qz] 45))
   rw [<- hV8] at HK
   have hl1:(i:Int) < (M.length:Int):=by omega
   go_upto_region 5 with fail
   rw [<- hV8,<- hnb]
   clear hV8 hnb x0 x1 x2
   obtain ⟨d0,d1,d2,_,_,_⟩:=HB8.out
   dsimp only at d0 d1 d2
   by_cases hz:(⟨qx,qy,qz⟩:Pt) = Pt.O
   ·have HE9:Hid _:=HN0.out hz
    have e3:qx = 0/\qy = 0/\qz = 0:=by simpa [Pt.O] using hz
    obtain ⟨rfl,rfl,rfl⟩:=e3
    clear HN0 HN1 HN2 hz
    go_wp2_with (fail)
    clear d0 d1 d2
    go_roundg (M.length - (i + 1))
    case measure=>have:=HG.out;omega
    case rel=>exact ⟨i + 1,o2,c2,X,rfl,by go_num,by omega,by omega,rfl,HK,by show _ = _;rw [HE9.out]⟩
   ·have hz3:qx = 0->qy = 0->¬ qz = 0:=fun a b c=>hz (by rw [a,b,c];rfl)
    by_cases hlen:X.length < 128
    ·have HE9:Hid _:=HN1.out hz hlen
     have hl8:(X.length:Int) < 128:=by omega
     clear HN0 HN1 HN2 hz hlen
     go_cut [24] from 16 to 25 (fun s24 wx=>s24 = .bool true/\wx = V8)
     case first =>
      go_wp2_with (fail)
      all_goals first
       | (exfalso;exact hz3 (by assumption) (by assumption) (by assumption))
       | (go_meet;case rel=>exact ⟨rfl,rfl⟩)
     case rest =>
      obtain ⟨rfl,e9⟩:=hcut
      rw [e9]
      clear hz3 e9
      go_wp2_with (at_builtin;refine wpList_append_own_at _ rfl _ _ 26 rfl w0.heap.size 45 i0 _ 3 24 Tryz.underlying26 HI.out.1 HI.out.2.1 HI.out.2.2.1 HI.out.2.2.2 rfl (by decide) _ _ _ rfl (own_below HK.out.own (n_after V8 _)) ⟨V8.heap.size,0,none⟩ 1 1 [.int .i64 qx,.int .i64 qy,.int .i64 qz] rfl rfl (news_at (heap_alloc_new V8 _)) (by intro u hu;simp at hu;rcases hu with rfl | rfl | rfl <;> rfl) (by unfold maxLen;omega) (by omega) (by have:=HK.out.hx;simp;omega) ?_;intro u9 V9 r8 g8 _ s8;have HK9:Hid _:=CK.app ⟨qx,qy,qz⟩ (HK.out.step (n_after V8 _)) r8 (grewOf g8 s8);obtain ⟨o9,c9,e9⟩:=rowp_form HK9.out.own;subst e9;clear r8 g8 s8)
      clear d0 d1 d2
      go_roundg (M.length - (i + 1))
      case measure=>have:=HG.out;omega
      case rel=>exact ⟨i + 1,o9,c9,X ++ [⟨qx,qy,qz⟩],by rw [List.length_append];rfl,by go_num,by omega,by rw [List.length_append];simp;omega,rfl,HK9,by show _ = _;rw [HE9.out]⟩
    ·have HE9:Hid _:=HN2.out hz hlen
     have hl8:¬ (X.length:Int) < 128:=by omega
     clear HN0 HN1 HN2 hz hlen
     go_cut [24] from 16 to 25 (fun s24 wx=>s24 = .bool false/\wx = V8)
     case first =>
      go_wp2_with (fail)
      all_goals first
       | (exfalso;exact hz3 (by assumption) (by assumption) (by assumption))
       | (go_meet;case rel=>exact ⟨rfl,rfl⟩)
     case rest =>
      obtain ⟨rfl,e9⟩:=hcut
      rw [e9]
      clear hz3 e9 d0 d1 d2
      go_wp2_with (fail)
      go_roundg (M.length - (i + 1))
      case measure=>have:=HG.out;omega
      case rel=>exact ⟨i + 1,o2,c2,X,rfl,by go_num,by omega,by omega,rfl,HK,by show _ = _;rw [HE9.out]⟩
  ·obtain rfl:i = M.length:=by omega
   have HE:Hid (X = keepD M):=by show _ = _;rw [HE.out,List.take_length]
   go_wp2_with (fail)
   exact bodyPost_ret (v:=.slice o2 X.length c2) (by simp [results,Tryz.results79,go_sem]) rfl ⟨_,rfl,by show Row _ _ _ _;rw [<- HE.out];exact ⟨HK.out.own,HK.out.below⟩⟩
end
section
open Go.RowKit Go.Shelf
structure Tri (w0 W:World) (vp va ve:Value) (P A E:List Pt):Prop where
 rp:W.ownsRow w0.heap.size 45 3 vp P.length (fl3 P)
 ra:W.ownsRow w0.heap.size 45 3 va A.length (fl3 A)
 re:W.ownsRow w0.heap.size 45 3 ve E.length (fl3 E)
 below:Below w0.heap.size w0 W
theorem trail_far {w:World} {base n b:Nat} {t:TypeId} {v:Value} {xs:List Value} {sz:Nat} (h:w.ownsRow base t sz v n xs) (hb:b < base):v.ownBlock ≠ some b:=fun e=>by have:=(h.lt b e).1;omega
theorem trail_cel {W:World} {b c:Nat} {vs:List Value} (h:Cel W b vs) (hne:b ≠ c) (v0 v1 v2 v3:Value):Cel (set4 W c v0 v1 v2 v3) b vs:=fun i v e=>by
 have:=h i v e
 unfold set4
 simp [go_sem,this]
theorem trail_yes {a:Cr} {w:Pt} {k:Int} (h:goB a w = true) (hk:0 <= k/\k <= 16):trailC a w k = ⟨a.P ++ a.P.map (·.mov (wayBy w k)),keepD (a.A ++ a.E.map (fun e=>(e.cross w.short).short)),keepD (a.E ++ [w.short]),a.r⟩:=by unfold trailC;rw [h,decide_eq_true hk];rfl
theorem trail_no {a:Cr} {w:Pt} {k:Int} (h:¬ (goB a w = true/\0 <= k/\k <= 16)):trailC a w k = nilC:=by
 unfold trailC
 rw [if_neg]
 simp only [Bool.and_eq_true,decide_eq_true_eq]
 exact h
theorem wtrail_any (c:Cr) (wy:Pt) (k:Int) (pv av ev:Value) (w0:World) (hp:Lies w0 pv c.P) (ha:Lies w0 av c.A) (he:Lies w0 ev c.E) :
  Calls Tryz.prog 39 #[coreA pv av ev c.r,wy.v,.int .i64 k] w0 fun e W=>∃ vp va ve,e = .returned (coreA vp va ve (trailC c wy k).r)/\Tri w0 W vp va ve (trailC c wy k).P (trailC c wy k).A (trailC c wy k).E:=by
 have HGO:Hid _:=fun (w':World) (h:Below w0.heap.size w0 w')=>wgo_any c wy pv av ev w' (hp.below h) (ha.below h) (he.below h)
 have HBT:Hid _:=fun w'=>wbetween_any k 0 16 w'
 have HSH:Hid _:=fun w'=>short_any wy w'
 have HYES:Hid _:=fun (h:goB c wy = true) (hk:0 <= k/\k <= 16)=>trail_yes h hk
 have HNO:Hid _:=fun (h:¬ (goB c wy = true/\0 <= k/\k <= 16))=>trail_no h
 have HFA:Hid _:=fun (h:goB c wy = true)=>go_parts h
 have HLN:Hid (goB c wy = true->c.A.length <= 128/\c.E.length <= 128):=fun h=>by
  have h9:=(go_parts h).1
  unfold mayC at h9
  simp only [Bool.and_eq_true,decide_eq_true_eq] at h9
  exact ⟨by omega,by omega⟩
 have LP:Hid _:=hp
 have LA:Hid _:=ha
 have LE:Hid _:=he
 obtain ⟨P,A,E,r⟩:=c
 dsimp only at *
 obtain ⟨o,cap,rfl,hlc,hcm,_⟩:=hp.form
 obtain ⟨o2,cap2,rfl,_,_,_⟩:=ha.form
 obtain ⟨o3,cap3,rfl,_,_,_⟩:=he.form
 clear hp ha he hlc hcm
 obtain ⟨TC,hTC⟩:∃ x,trailC ⟨P,A,E,r⟩ wy k = x:=⟨_,rfl⟩
 rw [hTC] at HYES HNO ⊢
 obtain ⟨gb,hgb⟩:∃ x,goB ⟨P,A,E,r⟩ wy = x:=⟨_,rfl⟩
 rw [hgb] at HGO HYES HNO HFA HLN
 have w_k:∀ x,decide (0 <= k/\k <= 16) = x->(x = true ↔ 0 <= k/\k <= 16):=fun x e=>by rw [<- e];simp
 obtain ⟨kb,hkb⟩:∃ x,decide (0 <= k/\k <= 16) = x:=⟨_,rfl⟩
 have HKB:Hid _:=w_k kb hkb
 rw [hkb] at HBT
 clear hTC hgb w_k hkb
 obtain ⟨wx,wY,wz⟩:=wy
 unfold coreA Pt.v at *
 dsimp only at *
 obtain ⟨X0,hX0⟩:∃ V,V = ((w0.alloc (.cells #[.slice o P.length cap,.slice o2 A.length cap2,.slice o3 E.length cap3,.int .i64 r] 28)).alloc (.cells #[.int .i64 wx,.int .i64 wY,.int .i64 wz] 45)).alloc (.cells #[.slice none 0 0,.slice none 0 0,.slice none 0 0,.int .i64 0] 28):=⟨_,rfl⟩
 obtain ⟨ab,hab⟩:∃ b,b = w0.heap.size:=⟨_,rfl⟩
 obtain ⟨wb,hwb⟩:∃ b,b = w0.heap.size + 1:=⟨_,rfl⟩
 obtain ⟨rb,hrb⟩:∃ b,b = w0.heap.size + 1 + 1:=⟨_,rfl⟩
 have n2:=Cel.new (w0.alloc (.cells #[.slice o P.length cap,.slice o2 A.length cap2,.slice o3 E.length cap3,.int .i64 r] 28)) [.int .i64 wx,.int .i64 wY,.int .i64 wz] 45
 rw [World.size_alloc] at n2
 have n3:=CelW.new ((w0.alloc (.cells #[.slice o P.length cap,.slice o2 A.length cap2,.slice o3 E.length cap3,.int .i64 r] 28)).alloc (.cells #[.int .i64 wx,.int .i64 wY,.int .i64 wz] 45)) [.slice none 0 0,.slice none 0 0,.slice none 0 0,.int .i64 0] 28
 rw [World.size_alloc,World.size_alloc] at n3
 have CA:Hid (Cel X0 ab [.slice o P.length cap,.slice o2 A.length cap2,.slice o3 E.length cap3,.int .i64 r]):=by show Cel _ _ _;rw [hX0,hab];exact ((Cel.new w0 [.slice o P.length cap,.slice o2 A.length cap2,.slice o3 E.length cap3,.int .i64 r] 28).step (n_after _ _)).step (n_after _ _)
 have CW:Hid (Cel X0 wb [.int .i64 wx,.int .i64 wY,.int .i64 wz]):=by show Cel _ _ _;rw [hX0,hwb];exact n2.step (n_after _ _)
 have CR:Hid (CelW X0 rb [.slice none 0 0,.slice none 0 0,.slice none 0 0,.int .i64 0]):=by show CelW _ _ _;rw [hX0,hrb];exact n3
 have HXB:Hid (Below w0.heap.size w0 X0):=by show Below _ _ _;rw [hX0];exact b_step (b_step (n_after _ _) (n_after _ _)) (n_after _ _)
 have HR0:Hid (w0.heap.size <= rb):=by show _ <= _;omega
 clear n2 n3
 go_enter Tryz.func39,Tryz.ntmps39
 go_upto_region 1 with fail
 rw [<- hX0,<- hrb,<- hwb,<- hab]
 clear hX0 hab hwb hrb
 have x0:=CA.out 0 _ rfl
 have x1:=CA.out 1 _ rfl
 have x2:=CA.out 2 _ rfl
 have x3:=CA.out 3 _ rfl
 have y0:=CW.out 0 _ rfl
 have y1:=CW.out 1 _ rfl
 have y2:=CW.out 2 _ rfl
 go_wp2_with (fail)
 refine Calls.mono (HGO.out _ HXB.out) ?_
 rintro e V1 ⟨rfl,hb⟩
 have CA:Hid (Cel _ _ _):=CA.out.step hb
 have CW:Hid (Cel _ _ _):=CW.out.step hb
 have CR:Hid (CelW _ _ _):=CR.out.step hb
 have HXB:Hid _:=b_step HXB.out hb
 clear hb x0 x1 x2 x3 y0 y1 y2 HGO
 by_cases hgk:gb = true/\kb = true
 ·obtain ⟨rfl,rfl⟩:=hgk
  have hk:=HKB.out.1 rfl
  have e1:=HYES.out rfl hk
  have HRC:Hid (TC.r = r):=by show _ = _;rw [e1]
  obtain ⟨f1,f2,f3,f4,f5,f6⟩:=HFA.out rfl
  obtain ⟨f7,f8⟩:=HLN.out rfl
  have hbi:=wayBy_in f3 hk
  have HPA:Hid _:=fun w'=>wpart_any ⟨wx,wY,wz⟩ k w' f3 hk
  have HMV:Hid _:=fun (w':World) (h:Below w0.heap.size w0 w')=>wmoved_any P (wayBy ⟨wx,wY,wz⟩ k) _ w' (LP.out.below h) (fun p hp=>inB_mono (f4 p hp) (by decide)) (inB_mono hbi (by decide)) (by omega)
  have HCC:Hid _:=fun (v2:Value) (g:Nat) (w':World) (h:Below w0.heap.size w0 w') (hl:Lies w' v2 (P.map (·.mov (wayBy ⟨wx,wY,wz⟩ k)))) (hc:Cel w' g [.slice o P.length cap,v2])=>wconcat_any P _ _ v2 g w' (LP.out.below h) hl hc (by rw [List.length_map];omega)
  have HAC:Hid _:=fun (w':World) (h:Below w0.heap.size w0 w')=>wacross_any E (Pt.short ⟨wx,wY,wz⟩) _ w' (LE.out.below h) f6 (short_in _) (by omega)
  have HD1:Hid _:=fun (v2:Value) (w':World) (h:Below w0.heap.size w0 w') (hl:Lies w' v2 (E.map (fun e=>(e.cross (Pt.short ⟨wx,wY,wz⟩)).short)))=>wdirs_any A _ _ v2 w' (LA.out.below h) hl (by rw [List.length_map];omega)
  have HD2:Hid _:=fun (v2:Value) (w':World) (h:Below w0.heap.size w0 w') (hl:Lies w' v2 [Pt.short ⟨wx,wY,wz⟩])=>wdirs_any E _ _ v2 w' (LE.out.below h) hl (by simp;omega)
  clear f1 f2 f3 f4 f5 f6 f7 f8 hbi hk HYES HNO HFA HLN HKB LP LA LE
  obtain ⟨TP,hTP⟩:∃ x,P ++ P.map (·.mov (wayBy ⟨wx,wY,wz⟩ k)) = x:=⟨_,rfl⟩
  obtain ⟨TA,hTA⟩:∃ x,keepD (A ++ E.map (fun e=>(e.cross (Pt.short ⟨wx,wY,wz⟩)).short)) = x:=⟨_,rfl⟩
  obtain ⟨TE,hTE⟩:∃ x,keepD (E ++ [Pt.short ⟨wx,wY,wz⟩]) = x:=⟨_,rfl⟩
  have HFT:Hid (∀ W vp va ve,Tri w0 W vp va ve TP TA TE->Tri w0 W vp va ve TC.P TC.A TC.E):=fun W vp va ve h=>by rw [e1];dsimp only;rw [hTP,hTA,hTE];exact h
  rw [hTP] at HCC
  rw [hTA] at HD1
  rw [hTE] at HD2
  obtain ⟨MV,hMV⟩:∃ x,P.map (·.mov (wayBy ⟨wx,wY,wz⟩ k)) = x:=⟨_,rfl⟩
  obtain ⟨AC,hAC⟩:∃ x,E.map (fun e=>(e.cross (Pt.short ⟨wx,wY,wz⟩)).short) = x:=⟨_,rfl⟩
  rw [hMV] at HCC HMV
  rw [hAC] at HAC HD1
  clear hTP hTA hTE hMV hAC e1
  obtain ⟨⟨bx,bY,bz⟩,hby⟩:∃ x,wayBy ⟨wx,wY,wz⟩ k = x:=⟨_,rfl⟩
  obtain ⟨⟨lx,ly,lz⟩,hls⟩:∃ x,Pt.short ⟨wx,wY,wz⟩ = x:=⟨_,rfl⟩
  rw [hby] at HPA HMV
  rw [hls] at HAC HD2 HSH
  obtain ⟨LL,hLL⟩:∃ x,([⟨lx,ly,lz⟩]:List Pt) = x:=⟨_,rfl⟩
  rw [hLL] at HD2
  have HLL:Hid (LL = [⟨lx,ly,lz⟩]):=hLL.symm
  clear hby hls hLL
  unfold Pt.v at *
  dsimp only at *
  go_wp2_with (fail)
  refine Calls.mono (HBT.out _) ?_
  rintro e V2 ⟨rfl,rfl⟩
  have y0:=CW.out 0 _ rfl
  have y1:=CW.out 1 _ rfl
  have y2:=CW.out 2 _ rfl
  go_wp2_with (fail)
  refine Calls.mono (HSH.out _) ?_
  rintro e V3 ⟨rfl,hb⟩
  have CA:Hid (Cel _ _ _):=CA.out.step hb
  have CW:Hid (Cel _ _ _):=CW.out.step hb
  have CR:Hid (CelW _ _ _):=CR.out.step hb
  have HXB:Hid _:=b_step HXB.out hb
  clear hb y0 y1 y2 HSH HBT
  obtain ⟨X,hX⟩:∃ V,V = V3.alloc (.cells #[.int .i64 lx,.int .i64 ly,.int .i64 lz] 45):=⟨_,rfl⟩
  obtain ⟨lb,hlb⟩:∃ b,b = V3.heap.size:=⟨_,rfl⟩
  have hbx:Below V3.heap.size V3 X:=by rw [hX];exact n_after _ _
  have CL:Hid (Cel X lb [.int .i64 lx,.int .i64 ly,.int .i64 lz]):=by show Cel _ _ _;rw [hX,hlb];exact Cel.new V3 [.int .i64 lx,.int .i64 ly,.int .i64 lz] _
  go_upto_region 4 with fail
  rw [<- hX,<- hlb]
  have CA:Hid (Cel _ _ _):=CA.out.step hbx
  have CW:Hid (Cel _ _ _):=CW.out.step hbx
  have CR:Hid (CelW _ _ _):=CR.out.step hbx
  have HXB:Hid _:=b_step HXB.out hbx
  have HRB:Hid (rb < X.heap.size):=CR.out.lt
  have HMV:Hid _:=fun (w':World) (h:Below X.heap.size X w')=>HMV.out w' (b_step HXB.out h)
  have HCC:Hid _:=fun (v2:Value) (g:Nat) (w':World) (h:Below X.heap.size X w')=>HCC.out v2 g w' (b_step HXB.out h)
  have HAC:Hid _:=fun (w':World) (h:Below X.heap.size X w')=>HAC.out w' (b_step HXB.out h)
  have HD1:Hid _:=fun (v2:Value) (w':World) (h:Below X.heap.size X w')=>HD1.out v2 w' (b_step HXB.out h)
  have HD2:Hid _:=fun (v2:Value) (w':World) (h:Below X.heap.size X w')=>HD2.out v2 w' (b_step HXB.out h)
  clear hX hlb hbx
  refine RV.region_by (fun j v w=>match j with | 0=>v = .pointer (some ⟨ab,0,none⟩) | 1=>v = .slice o P.length cap | 2=>v = .pointer (some ⟨ab,0,none⟩) | 3=>v = .slice o P.length cap | 4=>v = .agg #[.int .i64 wx,.int .i64 wY,.int .i64 wz] | 5=>v = .int .i64 k | 6=>v = .agg #[.int .i64 bx,.int .i64 bY,.int .i64 bz] | 7=>(fun v w=>w.ownsRow X.heap.size 45 3 v MV.length (fl3 MV)) v w | 8=>(fun v w=>∃ g v2,v = .slice (some ⟨g,0,none⟩) 2 2/\X.heap.size <= g/\Cel w g [.slice o P.length cap,v2]/\w.ownsRow X.heap.size 45 3 v2 MV.length (fl3 MV)) v w | 9=>(fun v w=>w.ownsRow X.heap.size 45 3 v TP.length (fl3 TP)) v w | 10=>v = .pointer (some ⟨ab,1,none⟩) | 11=>v = .slice o2 A.length cap2 | 12=>v = .pointer (some ⟨ab,2,none⟩) | 13=>v = .slice o3 E.length cap3 | 14=>v = .agg #[.int .i64 lx,.int .i64 ly,.int .i64 lz] | 15=>(fun v w=>w.ownsRow X.heap.size 45 3 v AC.length (fl3 AC)) v w | 16=>(fun v w=>w.ownsRow X.heap.size 45 3 v TA.length (fl3 TA)) v w | 17=>v = .pointer (some ⟨ab,2,none⟩) | 18=>v = .slice o3 E.length cap3 | 19=>v = .agg #[.int .i64 lx,.int .i64 ly,.int .i64 lz] | 20=>(fun v w=>w.ownsRow X.heap.size 45 3 v LL.length (fl3 LL)) v w | 21=>(fun v w=>w.ownsRow X.heap.size 45 3 v TE.length (fl3 TE)) v w | 22=>v = .pointer (some ⟨ab,3,none⟩) | 23=>v = .int .i64 r | 24=>(fun v w=>∃ vp va ve,v = .agg #[vp,va,ve,.int .i64 r]/\w.ownsRow X.heap.size 45 3 vp TP.length (fl3 TP)/\w.ownsRow X.heap.size 45 3 va TA.length (fl3 TA)/\w.ownsRow X.heap.size 45 3 ve TE.length (fl3 TE)) v w | 25=>True | _=>True) (fun γ L w=>(L 25 = false/\Below X.heap.size X w) \/ (L 25 = true/\∃ w8 vp va ve,Below X.heap.size X w8/\w8.ownsRow X.heap.size 45 3 vp TP.length (fl3 TP)/\w8.ownsRow X.heap.size 45 3 va TA.length (fl3 TA)/\w8.ownsRow X.heap.size 45 3 ve TE.length (fl3 TE)/\w = set4 w8 rb vp va ve (.int .i64 r))) (by kernel_rfl) (by kernel_rfl) (by kernel_rfl) (by kernel_rfl) ?_ ?_ ?_
  ·exact Or.inl ⟨rfl,(Below.refl _ X).drew⟩
  ·generalize hD:dstOf _ = D
   generalize hWA:waitsFor _ = WA
   generalize hZ:Act.mk _ _ = Z
   refine RV.AllDo.name ?_
   intro R hR
   have kn:RV.Kn R [.some (.pointer (some ⟨ab,0,none⟩)),.some (.slice o P.length cap),.some (.pointer (some ⟨ab,0,none⟩)),.some (.slice o P.length cap),.some (.agg #[.int .i64 wx,.int .i64 wY,.int .i64 wz]),.some (.int .i64 k),.some (.agg #[.int .i64 bx,.int .i64 bY,.int .i64 bz]),none,none,none,.some (.pointer (some ⟨ab,1,none⟩)),.some (.slice o2 A.length cap2),.some (.pointer (some ⟨ab,2,none⟩)),.some (.slice o3 E.length cap3),.some (.agg #[.int .i64 lx,.int .i64 ly,.int .i64 lz]),none,none,.some (.pointer (some ⟨ab,2,none⟩)),.some (.slice o3 E.length cap3),.some (.agg #[.int .i64 lx,.int .i64 ly,.int .i64 lz]),none,none,.some (.pointer (some ⟨ab,3,none⟩)),.some (.int .i64 r),none,none] 0:=by rw [hR];exact ⟨fun _ _=>Iff.rfl,fun _ _=>Iff.rfl,fun _ _=>Iff.rfl,fun _ _=>Iff.rfl,fun _ _=>Iff.rfl,fun _ _=>Iff.rfl,fun _ _=>Iff.rfl,fun _ _=>Iff.rfl,fun _ _=>Iff.rfl,fun _ _=>Iff.rfl,fun _ _=>Iff.rfl,fun _ _=>Iff.rfl,fun _ _=>Iff.rfl,fun _ _=>Iff.rfl,fun _ _=>Iff.rfl,fun _ _=>Iff.rfl,fun _ _=>Iff.rfl,trivial⟩
   have T:=RV.kfacts [21,22,23,24,25,26,27,28,29,30,31,32,33,34,35,36,37,38,39,40,41,42,43,44,45,0] [(2,.int .i64 k),(3,.pointer (some ⟨ab,0,none⟩)),(4,.pointer (some ⟨wb,0,none⟩)),(6,.pointer (some ⟨rb,0,none⟩)),(7,.pointer (some ⟨lb,0,none⟩))] hD hZ kn ⟨rfl,rfl,rfl,rfl,rfl,trivial⟩ (by kernel_rfl) (by kernel_rfl)
   simp only [RV.Outs,RV.Slots,Nat.reduceAdd] at T
   have r7:∀ v w,R 7 v w = ((fun v w=>w.ownsRow X.heap.size 45 3 v MV.length (fl3 MV)) v w):=fun v w=>by rw [hR];rfl
   have r8:∀ v w,R 8 v w = ((fun v w=>∃ g v2,v = .slice (some ⟨g,0,none⟩) 2 2/\X.heap.size <= g/\Cel w g [.slice o P.length cap,v2]/\w.ownsRow X.heap.size 45 3 v2 MV.length (fl3 MV)) v w):=fun v w=>by rw [hR];rfl
   have r9:∀ v w,R 9 v w = ((fun v w=>w.ownsRow X.heap.size 45 3 v TP.length (fl3 TP)) v w):=fun v w=>by rw [hR];rfl
   have r15:∀ v w,R 15 v w = ((fun v w=>w.ownsRow X.heap.size 45 3 v AC.length (fl3 AC)) v w):=fun v w=>by rw [hR];rfl
   have r16:∀ v w,R 16 v w = ((fun v w=>w.ownsRow X.heap.size 45 3 v TA.length (fl3 TA)) v w):=fun v w=>by rw [hR];rfl
   have r20:∀ v w,R 20 v w = ((fun v w=>w.ownsRow X.heap.size 45 3 v LL.length (fl3 LL)) v w):=fun v w=>by rw [hR];rfl
   have r21:∀ v w,R 21 v w = ((fun v w=>w.ownsRow X.heap.size 45 3 v TE.length (fl3 TE)) v w):=fun v w=>by rw [hR];rfl
   have r24:∀ v w,R 24 v w = ((fun v w=>∃ vp va ve,v = .agg #[vp,va,ve,.int .i64 r]/\w.ownsRow X.heap.size 45 3 vp TP.length (fl3 TP)/\w.ownsRow X.heap.size 45 3 va TA.length (fl3 TA)/\w.ownsRow X.heap.size 45 3 ve TE.length (fl3 TE)) v w):=fun v w=>by rw [hR];rfl
   have r25:∀ v w,R 25 v w = (True):=fun v w=>by rw [hR];rfl
   have K:∀ j v w w',Below w.heap.size w w'->R j v w->R j v w':=by
    intro j v w w' hb h
    rw [hR] at h ⊢
    match j with
    | 0=>exact h
    | 1=>exact h
    | 2=>exact h
    | 3=>exact h
    | 4=>exact h
    | 5=>exact h
    | 6=>exact h
    | 7=>exact own_below h hb
    | 8=>obtain ⟨g,v2,h1,h2,h3,h4⟩:=h;exact ⟨g,v2,h1,h2,h3.step hb,own_below h4 hb⟩
    | 9=>exact own_below h hb
    | 10=>exact h
    | 11=>exact h
    | 12=>exact h
    | 13=>exact h
    | 14=>exact h
    | 15=>exact own_below h hb
    | 16=>exact own_below h hb
    | 17=>exact h
    | 18=>exact h
    | 19=>exact h
    | 20=>exact own_below h hb
    | 21=>exact own_below h hb
    | 22=>exact h
    | 23=>exact h
    | 24=>obtain ⟨vp,va,ve,h1,h2,h3,h4⟩:=h;exact ⟨vp,va,ve,h1,own_below h2 hb,own_below h3 hb,own_below h4 hb⟩
    | 25=>exact h
    | (_ + 26)=>trivial
   have K4:∀ j v w a1 a2 a3 a4,R j v w->R j v (set4 w rb a1 a2 a3 a4):=by
    intro j v w a1 a2 a3 a4 h
    rw [hR] at h ⊢
    match j with
    | 0=>exact h
    | 1=>exact h
    | 2=>exact h
    | 3=>exact h
    | 4=>exact h
    | 5=>exact h
    | 6=>exact h
    | 7=>exact own_set4 h (trail_far h HRB.out) _ _ _ _
    | 8=>obtain ⟨g,v2,h1,h2,h3,h4⟩:=h;exact ⟨g,v2,h1,h2,trail_cel h3 (by have:=HRB.out;omega) _ _ _ _,own_set4 h4 (trail_far h4 HRB.out) _ _ _ _⟩
    | 9=>exact own_set4 h (trail_far h HRB.out) _ _ _ _
    | 10=>exact h
    | 11=>exact h
    | 12=>exact h
    | 13=>exact h
    | 14=>exact h
    | 15=>exact own_set4 h (trail_far h HRB.out) _ _ _ _
    | 16=>exact own_set4 h (trail_far h HRB.out) _ _ _ _
    | 17=>exact h
    | 18=>exact h
    | 19=>exact h
    | 20=>exact own_set4 h (trail_far h HRB.out) _ _ _ _
    | 21=>exact own_set4 h (trail_far h HRB.out) _ _ _ _
    | 22=>exact h
    | 23=>exact h
    | 24=>obtain ⟨vp,va,ve,h1,h2,h3,h4⟩:=h;exact ⟨vp,va,ve,h1,own_set4 h2 (trail_far h2 HRB.out) _ _ _ _,own_set4 h3 (trail_far h3 HRB.out) _ _ _ _,own_set4 h4 (trail_far h4 HRB.out) _ _ _ _⟩
    | 25=>exact h
    | (_ + 26)=>trivial
   iterate 6 first
    | (refine RV.cc _ (RV.pk kn T (fun γ v L w hl h=>by rw [RV.mn (L:=L) (i:=_) (j:=25) (by decide)];exact h) (fun γ L a w hH hl h9 k9=>⟨_,?_,rfl⟩)) ?_;· simp [execOp,go_sem,h9])
    | (refine RV.cc _ (RV.pk kn T (fun γ v L w hl h=>by rw [RV.mn (L:=L) (i:=_) (j:=25) (by decide)];exact h) (fun γ L a w hH hl h9 k9=>⟨_,?_,rfl⟩)) ?_;· have hB9:=early9 hH.glob (RV.ny hH (RV.wt (j:=25) hWA (by kernel_rfl)) hl);have wz0:=Cel.step CW.out hB9 0 _ rfl;have wz1:=Cel.step CW.out hB9 1 _ rfl;have wz2:=Cel.step CW.out hB9 2 _ rfl;simp [execOp,go_sem,h9,wz0,wz1,wz2])
    | (refine RV.cc _ (RV.pk kn T (fun γ v L w hl h=>by rw [RV.mn (L:=L) (i:=_) (j:=25) (by decide)];exact h) (fun γ L a w hH hl h9 k9=>⟨_,?_,rfl⟩)) ?_;· have hB9:=early9 hH.glob (RV.ny hH (RV.wt (j:=25) hWA (by kernel_rfl)) hl);have wz0:=Cel.step CA.out hB9 0 _ rfl;simp [Region.binds] at k9;simp [execOp,go_sem,h9,k9,wz0])
   refine RV.cc _ (RV.dc (fun γ L a w hH hl hA=>by have h9:=T _ _ γ L a w hH;have k9:=hA;simp [Region.binds] at k9;have hB9:=early9 hH.glob (RV.ny hH (RV.wt (j:=25) (i:=6) hWA (by kernel_rfl)) hl);exact ⟨78,#[.agg #[.int .i64 wx,.int .i64 wY,.int .i64 wz],.int .i64 k],by simp [go_sem,h9,k9],Calls.mono (HPA.out w) (by rintro e w2 ⟨rfl,hb9⟩;exact ⟨_,rfl,((kn.at (k:=6) rfl _ _).2 rfl),fun j v _ h=>K j v _ _ hb9 h,Or.inl ⟨by rw [RV.mn (L:=L) (i:=6) (j:=25) (by decide)];exact RV.ny hH (RV.wt (j:=25) (i:=6) hWA (by kernel_rfl)) hl,b_step hB9 hb9⟩⟩)⟩)) ?_
   refine RV.cc _ (RV.dc (fun γ L a w hH hl hA=>by have h9:=T _ _ γ L a w hH;have k9:=hA;simp [Region.binds] at k9;have hB9:=early9 hH.glob (RV.ny hH (RV.wt (j:=25) (i:=7) hWA (by kernel_rfl)) hl);exact ⟨38,#[.slice o P.length cap,.agg #[.int .i64 bx,.int .i64 bY,.int .i64 bz]],by simp [go_sem,h9,k9],Calls.mono (HMV.out w hB9) (by rintro e w2 ⟨u,rfl,hrow⟩;have hb9:=hrow.below;exact ⟨_,rfl,(r7 _ _).mpr (own_le hrow.row hB9.size),fun j v _ h=>K j v _ _ hb9 h,Or.inl ⟨by rw [RV.mn (L:=L) (i:=7) (j:=25) (by decide)];exact RV.ny hH (RV.wt (j:=25) (i:=7) hWA (by kernel_rfl)) hl,b_step hB9 hb9⟩⟩)⟩)) ?_
   refine RV.cc _ (RV.does_step (fun γ L a w hH hl hA=>by have h9:=T _ _ γ L a w hH;have k9:=hA;simp [Region.binds] at k9;have l1:L 7 = true:=hA ⟨7,.data⟩ (by simp) rfl;have e1:=hH.slot 7 27 (by rw [<- hD];rfl) l1;have g1:=hH.holds 7 l1;rw [r7] at g1;have hB9:=early9 hH.glob (RV.ny hH (RV.wt (j:=25) (i:=8) hWA (by kernel_rfl)) hl);obtain ⟨om,cm,ev2⟩:=rowp_form g1;rw [ev2] at e1 g1;have hb9:=n_after w (.cells #[.slice o P.length cap,.slice om MV.length cm] 26);exact ⟨.slice (some ⟨w.heap.size,0,none⟩) 2 2,w.alloc (.cells #[.slice o P.length cap,.slice om MV.length cm] 26),by simp [execOp,go_sem,e1,h9,k9],(r8 _ _).mpr ⟨_,_,rfl,hB9.size,Cel.new w [.slice o P.length cap,.slice om MV.length cm] _,own_below g1 hb9⟩,fun j v _ h=>K j v _ _ hb9 h,Or.inl ⟨by rw [RV.mn (L:=L) (i:=8) (j:=25) (by decide)];exact RV.ny hH (RV.wt (j:=25) (i:=8) hWA (by kernel_rfl)) hl,b_step hB9 hb9⟩⟩)) ?_
   refine RV.cc _ (RV.dc (fun γ L a w hH hl hA=>by have l0:L 8 = true:=hA ⟨8,.data⟩ (by simp) rfl;have e0:=hH.slot 8 28 (by rw [<- hD];rfl) l0;have g0:=hH.holds 8 l0;rw [r8] at g0;have hB9:=early9 hH.glob (RV.ny hH (RV.wt (j:=25) (i:=9) hWA (by kernel_rfl)) hl);obtain ⟨g,v2,hv,hg,hc,ho2⟩:=g0;rw [hv] at e0;exact ⟨77,#[.slice (some ⟨g,0,none⟩) 2 2],by simp [go_sem,e0],Calls.mono (HCC.out v2 g w hB9 (Lies.of_row ho2) hc) (by rintro e w2 ⟨u,rfl,hrow⟩;have hb9:=hrow.below;exact ⟨_,rfl,(r9 _ _).mpr (own_le hrow.row hB9.size),fun j v _ h=>K j v _ _ hb9 h,Or.inl ⟨by rw [RV.mn (L:=L) (i:=9) (j:=25) (by decide)];exact RV.ny hH (RV.wt (j:=25) (i:=9) hWA (by kernel_rfl)) hl,b_step hB9 hb9⟩⟩)⟩)) ?_
   iterate 5 first
    | (refine RV.cc _ (RV.pk kn T (fun γ v L w hl h=>by rw [RV.mn (L:=L) (i:=_) (j:=25) (by decide)];exact h) (fun γ L a w hH hl h9 k9=>⟨_,?_,rfl⟩)) ?_;· simp [execOp,go_sem,h9])
    | (refine RV.cc _ (RV.pk kn T (fun γ v L w hl h=>by rw [RV.mn (L:=L) (i:=_) (j:=25) (by decide)];exact h) (fun γ L a w hH hl h9 k9=>⟨_,?_,rfl⟩)) ?_;· have hB9:=early9 hH.glob (RV.ny hH (RV.wt (j:=25) hWA (by kernel_rfl)) hl);have wz0:=Cel.step CL.out hB9 0 _ rfl;have wz1:=Cel.step CL.out hB9 1 _ rfl;have wz2:=Cel.step CL.out hB9 2 _ rfl;simp [execOp,go_sem,h9,wz0,wz1,wz2])
    | (refine RV.cc _ (RV.pk kn T (fun γ v L w hl h=>by rw [RV.mn (L:=L) (i:=_) (j:=25) (by decide)];exact h) (fun γ L a w hH hl h9 k9=>⟨_,?_,rfl⟩)) ?_;· have hB9:=early9 hH.glob (RV.ny hH (RV.wt (j:=25) hWA (by kernel_rfl)) hl);have wz0:=Cel.step CA.out hB9 1 _ rfl;simp [Region.binds] at k9;simp [execOp,go_sem,h9,k9,wz0])
    | (refine RV.cc _ (RV.pk kn T (fun γ v L w hl h=>by rw [RV.mn (L:=L) (i:=_) (j:=25) (by decide)];exact h) (fun γ L a w hH hl h9 k9=>⟨_,?_,rfl⟩)) ?_;· have hB9:=early9 hH.glob (RV.ny hH (RV.wt (j:=25) hWA (by kernel_rfl)) hl);have wz0:=Cel.step CA.out hB9 2 _ rfl;simp [Region.binds] at k9;simp [execOp,go_sem,h9,k9,wz0])
   refine RV.cc _ (RV.dc (fun γ L a w hH hl hA=>by have h9:=T _ _ γ L a w hH;have k9:=hA;simp [Region.binds] at k9;have hB9:=early9 hH.glob (RV.ny hH (RV.wt (j:=25) (i:=15) hWA (by kernel_rfl)) hl);exact ⟨80,#[.slice o3 E.length cap3,.agg #[.int .i64 lx,.int .i64 ly,.int .i64 lz]],by simp [go_sem,h9,k9],Calls.mono (HAC.out w hB9) (by rintro e w2 ⟨u,rfl,hrow⟩;have hb9:=hrow.below;exact ⟨_,rfl,(r15 _ _).mpr (own_le hrow.row hB9.size),fun j v _ h=>K j v _ _ hb9 h,Or.inl ⟨by rw [RV.mn (L:=L) (i:=15) (j:=25) (by decide)];exact RV.ny hH (RV.wt (j:=25) (i:=15) hWA (by kernel_rfl)) hl,b_step hB9 hb9⟩⟩)⟩)) ?_
   refine RV.cc _ (RV.dc (fun γ L a w hH hl hA=>by have h9:=T _ _ γ L a w hH;have k9:=hA;simp [Region.binds] at k9;have l1:L 15 = true:=hA ⟨15,.data⟩ (by simp) rfl;have e1:=hH.slot 15 35 (by rw [<- hD];rfl) l1;have g1:=hH.holds 15 l1;rw [r15] at g1;have hB9:=early9 hH.glob (RV.ny hH (RV.wt (j:=25) (i:=16) hWA (by kernel_rfl)) hl);exact ⟨79,#[.slice o2 A.length cap2,γ 15],by simp [go_sem,e1,h9,k9],Calls.mono (HD1.out _ w hB9 (Lies.of_row g1)) (by rintro e w2 ⟨u,rfl,hrow⟩;have hb9:=hrow.below;exact ⟨_,rfl,(r16 _ _).mpr (own_le hrow.row hB9.size),fun j v _ h=>K j v _ _ hb9 h,Or.inl ⟨by rw [RV.mn (L:=L) (i:=16) (j:=25) (by decide)];exact RV.ny hH (RV.wt (j:=25) (i:=16) hWA (by kernel_rfl)) hl,b_step hB9 hb9⟩⟩)⟩)) ?_
   iterate 3 first
    | (refine RV.cc _ (RV.pk kn T (fun γ v L w hl h=>by rw [RV.mn (L:=L) (i:=_) (j:=25) (by decide)];exact h) (fun γ L a w hH hl h9 k9=>⟨_,?_,rfl⟩)) ?_;· simp [execOp,go_sem,h9])
    | (refine RV.cc _ (RV.pk kn T (fun γ v L w hl h=>by rw [RV.mn (L:=L) (i:=_) (j:=25) (by decide)];exact h) (fun γ L a w hH hl h9 k9=>⟨_,?_,rfl⟩)) ?_;· have hB9:=early9 hH.glob (RV.ny hH (RV.wt (j:=25) hWA (by kernel_rfl)) hl);have wz0:=Cel.step CL.out hB9 0 _ rfl;have wz1:=Cel.step CL.out hB9 1 _ rfl;have wz2:=Cel.step CL.out hB9 2 _ rfl;simp [execOp,go_sem,h9,wz0,wz1,wz2])
    | (refine RV.cc _ (RV.pk kn T (fun γ v L w hl h=>by rw [RV.mn (L:=L) (i:=_) (j:=25) (by decide)];exact h) (fun γ L a w hH hl h9 k9=>⟨_,?_,rfl⟩)) ?_;· have hB9:=early9 hH.glob (RV.ny hH (RV.wt (j:=25) hWA (by kernel_rfl)) hl);have wz0:=Cel.step CA.out hB9 2 _ rfl;simp [Region.binds] at k9;simp [execOp,go_sem,h9,k9,wz0])
   refine RV.cc _ (RV.does_step (fun γ L a w hH hl hA=>by have h9:=T _ _ γ L a w hH;have k9:=hA;simp [Region.binds] at k9;have hB9:=early9 hH.glob (RV.ny hH (RV.wt (j:=25) (i:=20) hWA (by kernel_rfl)) hl);have hb9:=n_after w (.cells #[.int .i64 lx,.int .i64 ly,.int .i64 lz] 45);exact ⟨.slice (some ⟨w.heap.size,0,none⟩) 1 1,w.alloc (.cells #[.int .i64 lx,.int .i64 ly,.int .i64 lz] 45),by simp [execOp,go_sem,h9,k9],(r20 _ _).mpr (by rw [HLL.out];exact ⟨rfl,Or.inr ⟨w.heap.size,1,#[.int .i64 lx,.int .i64 ly,.int .i64 lz],rfl,hB9.size,heap_alloc_new w _,Nat.le_refl _,by unfold maxLen;omega,rfl,rfl⟩⟩),fun j v _ h=>K j v _ _ hb9 h,Or.inl ⟨by rw [RV.mn (L:=L) (i:=20) (j:=25) (by decide)];exact RV.ny hH (RV.wt (j:=25) (i:=20) hWA (by kernel_rfl)) hl,b_step hB9 hb9⟩⟩)) ?_
   refine RV.cc _ (RV.dc (fun γ L a w hH hl hA=>by have h9:=T _ _ γ L a w hH;have k9:=hA;simp [Region.binds] at k9;have l1:L 20 = true:=hA ⟨20,.data⟩ (by simp) rfl;have e1:=hH.slot 20 40 (by rw [<- hD];rfl) l1;have g1:=hH.holds 20 l1;rw [r20] at g1;have hB9:=early9 hH.glob (RV.ny hH (RV.wt (j:=25) (i:=21) hWA (by kernel_rfl)) hl);exact ⟨79,#[.slice o3 E.length cap3,γ 20],by simp [go_sem,e1,h9,k9],Calls.mono (HD2.out _ w hB9 (Lies.of_row g1)) (by rintro e w2 ⟨u,rfl,hrow⟩;have hb9:=hrow.below;exact ⟨_,rfl,(r21 _ _).mpr (own_le hrow.row hB9.size),fun j v _ h=>K j v _ _ hb9 h,Or.inl ⟨by rw [RV.mn (L:=L) (i:=21) (j:=25) (by decide)];exact RV.ny hH (RV.wt (j:=25) (i:=21) hWA (by kernel_rfl)) hl,b_step hB9 hb9⟩⟩)⟩)) ?_
   iterate 2 first
    | (refine RV.cc _ (RV.pk kn T (fun γ v L w hl h=>by rw [RV.mn (L:=L) (i:=_) (j:=25) (by decide)];exact h) (fun γ L a w hH hl h9 k9=>⟨_,?_,rfl⟩)) ?_;· simp [execOp,go_sem,h9])
    | (refine RV.cc _ (RV.pk kn T (fun γ v L w hl h=>by rw [RV.mn (L:=L) (i:=_) (j:=25) (by decide)];exact h) (fun γ L a w hH hl h9 k9=>⟨_,?_,rfl⟩)) ?_;· have hB9:=early9 hH.glob (RV.ny hH (RV.wt (j:=25) hWA (by kernel_rfl)) hl);have wz0:=Cel.step CA.out hB9 3 _ rfl;simp [Region.binds] at k9;simp [execOp,go_sem,h9,k9,wz0])
   refine RV.cc _ (RV.does_step (fun γ L a w hH hl hA=>by have h9:=T _ _ γ L a w hH;have k9:=hA;simp [Region.binds] at k9;have l0:L 9 = true:=hA ⟨9,.data⟩ (by simp) rfl;have l1:L 16 = true:=hA ⟨16,.data⟩ (by simp) rfl;have l2:L 21 = true:=hA ⟨21,.data⟩ (by simp) rfl;have e0:=hH.slot 9 29 (by rw [<- hD];rfl) l0;have g0:=hH.holds 9 l0;rw [r9] at g0;have e1:=hH.slot 16 36 (by rw [<- hD];rfl) l1;have g1:=hH.holds 16 l1;rw [r16] at g1;have e2:=hH.slot 21 41 (by rw [<- hD];rfl) l2;have g2:=hH.holds 21 l2;rw [r21] at g2;have hB9:=early9 hH.glob (RV.ny hH (RV.wt (j:=25) (i:=24) hWA (by kernel_rfl)) hl);obtain ⟨y1,c1,j1⟩:=rowp_form g0;obtain ⟨y2,c2,j2⟩:=rowp_form g1;obtain ⟨y3,c3,j3⟩:=rowp_form g2;rw [j1] at e0 g0;rw [j2] at e1 g1;rw [j3] at e2 g2;exact ⟨.agg #[.slice y1 TP.length c1,.slice y2 TA.length c2,.slice y3 TE.length c3,.int .i64 r],w,by simp [execOp,go_sem,e0,e1,e2,h9,k9],(r24 _ _).mpr ⟨_,_,_,rfl,g0,g1,g2⟩,fun j v _ h=>h,Or.inl ⟨by rw [RV.mn (L:=L) (i:=24) (j:=25) (by decide)];exact RV.ny hH (RV.wt (j:=25) (i:=24) hWA (by kernel_rfl)) hl,hB9⟩⟩)) ?_
   refine RV.cc _ (RV.does_store (fun γ L a w hH hl hA=>by have h9:=T _ _ γ L a w hH;have l1:L 24 = true:=hA ⟨24,.data⟩ (by simp) rfl;have e1:=hH.slot 24 44 (by rw [<- hD];rfl) l1;have g1:=hH.holds 24 l1;rw [r24] at g1;have hB9:=early9 hH.glob hl;obtain ⟨vp,va,ve,hv,hp1,ha1,he1⟩:=g1;rw [hv] at e1;obtain ⟨x1,x2,x3⟩:(∃ o c,vp = .slice o TP.length c)/\(∃ o c,va = .slice o TA.length c)/\(∃ o c,ve = .slice o TE.length c):=⟨rowp_form hp1,rowp_form ha1,rowp_form he1⟩;obtain ⟨y1,c1,rfl⟩:=x1;obtain ⟨y2,c2,rfl⟩:=x2;obtain ⟨y3,c3,rfl⟩:=x3;have HS:=CR.out.step hB9;have z0:=(HS 0 _ rfl).1;have zf0:=(HS 0 _ rfl).2;have z1:=(HS 1 _ rfl).1;have zf1:=(HS 1 _ rfl).2;have z2:=(HS 2 _ rfl).1;have zf2:=(HS 2 _ rfl).2;have z3:=(HS 3 _ rfl).1;have zf3:=(HS 3 _ rfl).2;exact ⟨set4 w rb (.slice y1 TP.length c1) (.slice y2 TA.length c2) (.slice y3 TE.length c3) (.int .i64 r),by simp [set4,execOp,go_sem,e1,z0,z1,z2,z3,zf0,zf1,zf2,zf3,h9],(r25 _ _).mpr trivial,fun j v _ h=>K4 j v w _ _ _ _ h,Or.inr ⟨RV.more_self,w,_,_,_,hB9,hp1,ha1,he1,rfl⟩⟩)) ?_
   exact RV.AllDo.nil
  ·intro γ a5 w5 L9 hL hLo hH
   have ha:=RV.held_act hH hL (by kernel_rfl) (by kernel_rfl)
   obtain ⟨w8,vp,va,ve,hb8,h1,h2,h3,rfl⟩:=late9 hH.glob (hL 25 (by decide))
   rw [ha]
   clear ha hH hL hLo
   simp only [RV.putAll,Act.put,List.setIfInBounds_toArray,List.set_cons_zero,List.set_cons_succ,Nat.zero_add,Nat.reduceAdd]
   have HT:Hid (Tri w0 (set4 w8 rb vp va ve (.int .i64 r)) vp va ve TP TA TE):=⟨own_set4 (own_le h1 HXB.out.size) (trail_far h1 HRB.out) _ _ _ _,own_set4 (own_le h2 HXB.out.size) (trail_far h2 HRB.out) _ _ _ _,own_set4 (own_le h3 HXB.out.size) (trail_far h3 HRB.out) _ _ _ _,set4_below (b_step HXB.out hb8) HR0.out _ _ _ _⟩
   have HS:Hid (CelW _ _ _):=CR.out.step hb8
   obtain ⟨y1,c1,rfl⟩:=rowp_form h1
   obtain ⟨y2,c2,rfl⟩:=rowp_form h2
   obtain ⟨y3,c3,rfl⟩:=rowp_form h3
   obtain ⟨z0,zf0⟩:=HS.out 0 _ rfl
   obtain ⟨z1,zf1⟩:=HS.out 1 _ rfl
   obtain ⟨z2,zf2⟩:=HS.out 2 _ rfl
   obtain ⟨z3,zf3⟩:=HS.out 3 _ rfl
   clear h1 h2 h3 hb8
   unfold set4 at HT ⊢
   go_wp2_with (fail)
   refine bodyPost_ret (v:=.agg #[.slice y1 TP.length c1,.slice y2 TA.length c2,.slice y3 TE.length c3,.int .i64 r]) (by simp [results,Tryz.results39,go_sem,z0,z1,z2,z3]) rfl ⟨_,_,_,by rw [HRC.out],HFT.out _ _ _ _ HT.out⟩
 ·have e1:=HNO.out (fun h=>hgk ⟨h.1,HKB.out.2 h.2⟩)
  have HRC:Hid (TC.r = 0):=by show _ = _;rw [e1];rfl
  have HFIN:Hid (Tri w0 (set4 V1 rb (.slice none 0 0) (.slice none 0 0) (.slice none 0 0) (.int .i64 0)) (.slice none 0 0) (.slice none 0 0) (.slice none 0 0) TC.P TC.A TC.E):=by rw [e1];exact ⟨World.ownsRow_nil _ _ _ _,World.ownsRow_nil _ _ _ _,World.ownsRow_nil _ _ _ _,set4_below HXB.out HR0.out _ _ _ _⟩
  obtain ⟨z0,zf0⟩:=CR.out 0 _ rfl
  obtain ⟨z1,zf1⟩:=CR.out 1 _ rfl
  obtain ⟨z2,zf2⟩:=CR.out 2 _ rfl
  obtain ⟨z3,zf3⟩:=CR.out 3 _ rfl
  clear HNO HYES HFA HLN HKB LP LA LE CA CW CR e1
  unfold set4 at HFIN
  cases gb with
  | false =>
   go_wp2_with (fail)
   exact bodyPost_ret (v:=.agg #[.slice none 0 0,.slice none 0 0,.slice none 0 0,.int .i64 0]) (by simp [results,Tryz.results39,go_sem,z0,z1,z2,z3]) rfl ⟨_,_,_,by rw [HRC.out],HFIN.out⟩
  | true =>
   cases kb with
   | true=>exact absurd ⟨rfl,rfl⟩ hgk
   | false =>
    go_wp2_with (fail)
    refine Calls.mono (HBT.out _) ?_
    rintro e V2 ⟨rfl,rfl⟩
    go_wp2_with (fail)
    exact bodyPost_ret (v:=.agg #[.slice none 0 0,.slice none 0 0,.slice none 0 0,.int .i64 0]) (by simp [results,Tryz.results39,go_sem,z0,z1,z2,z3]) rfl ⟨_,_,_,by rw [HRC.out],HFIN.out⟩
end
end Go.Proofs.YtablgiflakncfaaGreat
