/- The document's own ways: directions turned. -/
import Derived.Test.YtablgiflakncfaaGreatBBW0
import Derived.Test.YtablgiflakncfaaGreatBBW17
import Derived.Test.YtablgiflakncfaaGreatBBW13
import Derived.Test.YtablgiflakncfaaGreatBBW16
import Derived.Test.YtablgiflakncfaaGreatBBW6
import Derived.Laws.OwnMore
import Derived.Maps.AppendAt
import Derived.Deep.CutBlock
set_option maxHeartbeats 8000000
set_option maxRecDepth 100000
set_option linter.unusedVariables false
namespace Go.Proofs.YtablgiflakncfaaGreat
section
open Go.RowKit Go.Shelf
theorem rvturn_pt (b off:Nat) (f:Bool) (m:M9) (x:Pt) (W:World) (hc:W.cell? ⟨b,off,none⟩ = some (.bool f)) (hf:W.frozen? ⟨b,off,none⟩ = false) :
  Calls Tryz.prog 98 #[.pointer (some ⟨b,off,none⟩),m.v,x.v] W fun e W'=>e = .returned ((m.turn x).getD Pt.O).v/\Hid (After ⟨b,off,none⟩ (f || (m.turn x).isNone) W W'):=by
 refine Calls.mono (rvturn_law b off f m.a0 m.a1 m.a2 m.a3 m.a4 m.a5 m.a6 m.a7 m.a8 x.x x.y x.z W hc hf) ?_
 rintro e W' ⟨v0,v1,v2,g,rfl,S3,A⟩
 obtain ⟨e1,e2⟩:=step3_pt S3.out
 unfold M9.turn
 rw [<- e1,<- e2]
 exact ⟨rfl,A⟩
structure WS (w:World) (n0:Nat) (V:World) (wb:Nat) (g:Bool) (u:Value) (M:List Pt):Prop where
 lv:Leaves ⟨wb,0,none⟩ w V
 fl:V.cell? ⟨wb,0,none⟩ = some (.bool g)
 ff:V.frozen? ⟨wb,0,none⟩ = false
 own:V.ownsRow n0 45 3 u M.length (fl3 M)
 hw:wb < w.heap.size
 hn:w.heap.size <= n0
section
variable {w V X:World} {wb n0:Nat} {g g':Bool} {u:Value} {M:List Pt}
theorem WS.step (h:WS w n0 V wb g u M) (hb:Below V.heap.size V X):WS w n0 X wb g u M:=
 ⟨h.lv.step (hb.mono h.lv.size),c_after hb h.fl,f_after hb h.fl h.ff,own_below h.own hb,h.hw,h.hn⟩
theorem WS.after (h:WS w n0 V wb g u M) (A:After ⟨wb,0,none⟩ g' V X):WS w n0 X wb g' u M:=
 ⟨h.lv.same A,A.cell,A.frozen,row_turn h.own (after_grown A) (fun r e=>by cases e;have:=h.hw;have:=h.hn;omega),h.hw,h.hn⟩
theorem WS.set3 (h:WS w n0 V wb g u M) {b:Nat} (hb:w.heap.size <= b) (hu:u.ownBlock ≠ some b) (x y z:Int):WS w n0 (set3 V b x y z) wb g u M:=by
 have hne:wb ≠ b:=by have:=h.hw;omega
 have hk:(Go.Proofs.YtablgiflakncfaaGreat.set3 V b x y z).heap[wb]? = V.heap[wb]?:=by
  unfold Go.Proofs.YtablgiflakncfaaGreat.set3
  rw [Below.heap_setCell _ _ _ _ hne,Below.heap_setCell _ _ _ _ hne,Below.heap_setCell _ _ _ _ hne]
 exact ⟨((h.lv.set hb _).set hb _).set hb _,(World.cell?_of_block (w:=V) (a:=⟨wb,0,none⟩) hk).trans h.fl,(World.frozen?_of_block (w:=V) (a:=⟨wb,0,none⟩) hk).trans h.ff,ownsRow_setCell_other (ownsRow_setCell_other (ownsRow_setCell_other h.own hu _) hu _) hu _,h.hw,h.hn⟩
theorem WS.app {u':Value} {p:Pt} (h:WS w n0 V wb g u M) (hr:X.ownsRow n0 45 3 u' (M.length + 1) (fl3 M ++ [.int .i64 p.x,.int .i64 p.y,.int .i64 p.z])) (hg:V.grownBy X u.ownBlock):WS w n0 X wb g u' (M ++ [p]):=by
 have hne:∀ k,u.ownBlock = some k->k ≠ wb:=fun k e=>by have:=(h.own.lt k e).1;have:=h.hw;have:=h.hn;omega
 have hbl:X.heap[wb]? = V.heap[wb]?:=hg.block wb (World.block_lt_of_cell? _ _ h.fl) (fun e=>hne wb e.symm rfl)
 have hB:Below w.heap.size V X:=by
  refine ⟨hg.os,hg.tape,hg.output,hg.size,fun k hk=>?_⟩
  by_cases hkV:k < V.heap.size
  ·exact hg.block k hkV (fun e=>by have:=(h.own.lt k e.symm).1;have:=h.hn;omega)
  ·have:=h.lv.size;omega
 refine ⟨h.lv.step hB,(World.cell?_of_block (w:=V) (a:=⟨wb,0,none⟩) hbl).trans h.fl,(World.frozen?_of_block (w:=V) (a:=⟨wb,0,none⟩) hbl).trans h.ff,?_,h.hw,h.hn⟩
 rw [fl3_append,List.length_append];exact hr
theorem WS.le (h:WS w n0 V wb g u M):WS w w.heap.size V wb g u M:=⟨h.lv,h.fl,h.ff,own_le h.own h.hn,h.hw,Nat.le_refl _⟩
theorem big_nz {q:Pt} {n:Nat} (h:q.big n):q.x = 0->q.y = 0->¬ q.z = 0:=by
 intro a b c
 unfold Pt.big at h
 rw [a,b,c] at h
 have:0 < 2 ^ n:=Nat.pow_pos (by decide)
 simp only [Int.natAbs_zero] at h
 omega
theorem plus_two (q:Pt):∃ x2 y2 z2,q.plus q = ⟨x2,y2,z2⟩/\IntKind.wrap .i64 (2 * q.x) = x2/\IntKind.wrap .i64 (2 * q.y) = y2/\IntKind.wrap .i64 (2 * q.z) = z2:=by
 refine ⟨_,_,_,?_,rfl,rfl,rfl⟩
 unfold Pt.plus
 simp only [Int.two_mul]
theorem Cells.put3w {W:World} {b c:Nat} {vs:List Value} (h:Cells W b vs) (hn:b ≠ c) (x y z:Int):Cells (set3 W c x y z) b vs:=((Cells.apart h hn 0 _).apart hn 1 _).apart hn 2 _
end
theorem rways_any (wb:Nat) (f:Bool) (m:M9) (Ls:List Pt) (v:Value) (w:World) (hc:w.cell? ⟨wb,0,none⟩ = some (.bool f)) (hf:w.frozen? ⟨wb,0,none⟩ = false) (hv:Lies w v Ls) (hne:∀ q n c,v = .slice (some q) n c->Ls ≠ []->q.block ≠ wb) (hN:Ls.length < 1099511627776) :
  Calls Tryz.prog 101 #[.pointer (some ⟨wb,0,none⟩),m.v,v] w fun e W=>(∃ u,(∀ p ∈ Ls,p.inB 1048576 = true)/\e = .returned (.tuple #[u,.bool true])/\WS w w.heap.size W wb (f || Ls.any m.dirB) u (m.dirs Ls)) \/ (∃ g,(∃ p ∈ Ls,p.inB 1048576 = false)/\e = .returned (.tuple #[.slice none 0 0,.bool false])/\WS w w.heap.size W wb g (.slice none 0 0) []):=by
 obtain ⟨o,cap,rfl,hlc,hcm,hcell⟩:=hv.form
 have hwb:wb < w.heap.size:=World.block_lt_of_cell? _ _ hc
 have HCL:Hid _:=hcell
 have HNE:Hid _:=hne
 have HIN:Hid (∀ p:Pt,∀ mm:Int,(0 <= mm/\mm <= 4611686018427387903)->∀ w',Calls Tryz.prog 96 #[p.v,.int .i64 mm] w' fun e W=>e = .returned (.bool (p.inB mm))/\Below w'.heap.size w' W):=fun p mm h w'=>rin6_any p mm w' h
 obtain ⟨i0,hii,hiz,hisz,hib⟩:=info_parts point_info
 have HI:Hid _:=And.intro hii (And.intro hiz (And.intro hisz hib))
 clear hii hiz hisz hib hv hcell hne
 have HTU0:Hid _:=fun (x:Pt) (w':World) (g:Bool)=>rvturn_pt wb 0 g m x w'
 have HDV:Hid (∀ p,m.dirV p = ((m.dirT p).quo 4096).short):=fun p=>rfl
 have HDT:Hid (∀ p,m.dirT p = (m.turn (p.long.times 4096)).getD Pt.O/\m.dirB p = (m.turn (p.long.times 4096)).isNone):=fun p=>⟨rfl,rfl⟩
 have W0:Hid (WS w (w.heap.size + 1) (w.alloc (.cells #[.int .i64 m.a0,.int .i64 m.a1,.int .i64 m.a2,.int .i64 m.a3,.int .i64 m.a4,.int .i64 m.a5,.int .i64 m.a6,.int .i64 m.a7,.int .i64 m.a8] 129)) wb f (.slice none 0 0) []):=⟨(Leaves.refl _ _).alloc _,c_after (n_after _ _) hc,f_after (n_after _ _) hc hf,World.ownsRow_nil _ _ _ _,hwb,by omega⟩
 have M0:Hid (Cells (w.alloc (.cells #[.int .i64 m.a0,.int .i64 m.a1,.int .i64 m.a2,.int .i64 m.a3,.int .i64 m.a4,.int .i64 m.a5,.int .i64 m.a6,.int .i64 m.a7,.int .i64 m.a8] 129)) w.heap.size [.int .i64 m.a0,.int .i64 m.a1,.int .i64 m.a2,.int .i64 m.a3,.int .i64 m.a4,.int .i64 m.a5,.int .i64 m.a6,.int .i64 m.a7,.int .i64 m.a8]):=Cells.new _ _ _
 clear hc hf
 obtain ⟨mb,hmb⟩:∃ b,b = w.heap.size:=⟨_,rfl⟩
 obtain ⟨w1,hw1⟩:∃ w1,w1 = w.alloc (.cells #[.int .i64 m.a0,.int .i64 m.a1,.int .i64 m.a2,.int .i64 m.a3,.int .i64 m.a4,.int .i64 m.a5,.int .i64 m.a6,.int .i64 m.a7,.int .i64 m.a8] 129):=⟨_,rfl⟩
 rw [<- hw1] at W0 M0
 rw [<- hmb] at M0 W0
 have hmw:mb ≠ wb:=by omega
 have hwm:w.heap.size <= mb:=by omega
 unfold M9.v
 go_enter Tryz.func101,Tryz.ntmps101
 go_wp2_with (fail)
 rw [<- hw1,<- hmb]
 clear hw1 hmb
 go_loopg [8,9] Ls.length (fun gm s8 s9 wr=>∃ (i:Nat) (g:Bool) (u:Value),s9 = .int .i64 (i:Int)/\s8 = u/\i <= Ls.length/\gm = Ls.length - i/\Hid (WS w (mb + 1) wr wb g u (dirsK (fun k=>m.dirV (pt Ls k)) i))/\Hid (Cells wr mb [.int .i64 m.a0,.int .i64 m.a1,.int .i64 m.a2,.int .i64 m.a3,.int .i64 m.a4,.int .i64 m.a5,.int .i64 m.a6,.int .i64 m.a7,.int .i64 m.a8])/\Hid (g = (f || anyK (fun k=>m.dirB (pt Ls k)) i))/\Hid (∀ j,j < i->(pt Ls j).inB 1048576 = true))
 case atStart=>exact ⟨0,f,_,rfl,rfl,Nat.zero_le _,rfl,W0,M0,by show _ = _;simp [anyK],fun j hj=>absurd hj (by omega)⟩
 case round =>
  clear W0 M0
  obtain ⟨i,g,u,rfl,rfl,hi,hgm,HWS,HMB,HGB,HAL⟩:=hrel
  have HG1:Hid _:=hgm
  clear hgm
  obtain ⟨uo,uc,hu⟩:=rowp_form HWS.out.own
  subst hu
  by_cases hit:i < Ls.length
  ·obtain ⟨g7,f7,rfl,x0,x1,x2⟩:=HCL.out i hit
   have hg7:g7 ≠ wb:=HNE.out ⟨g7,f7,none⟩ _ _ rfl (fun e=>by rw [e] at hit;simp at hit)
   have x0:=(HWS.out.lv.other ⟨g7,f7 + i * 3,none⟩ (World.block_lt_of_cell? _ _ x0) hg7).1.trans x0
   have x1:=(HWS.out.lv.other ⟨g7,f7 + i * 3 + 1,none⟩ (World.block_lt_of_cell? _ _ x1) hg7).1.trans x1
   have x2:=(HWS.out.lv.other ⟨g7,f7 + i * 3 + 2,none⟩ (World.block_lt_of_cell? _ _ x2) hg7).1.trans x2
   have HMEM:Hid _:=pt_mem hit
   have HK1:Hid (dirsK (fun k=>m.dirV (pt Ls k)) (i + 1) = if m.dirV (pt Ls i) = Pt.O then dirsK (fun k=>m.dirV (pt Ls k)) i else dirsK (fun k=>m.dirV (pt Ls k)) i ++ [m.dirV (pt Ls i)]):=by
    show _ = _
    by_cases h:m.dirV (pt Ls i) = Pt.O
    ·rw [if_pos h];exact dirsK_no _ _ h
    ·rw [if_neg h];exact dirsK_yes _ _ h
   have HK2:Hid (anyK (fun k=>m.dirB (pt Ls k)) (i + 1) = (anyK (fun k=>m.dirB (pt Ls k)) i || m.dirB (pt Ls i))):=rfl
   have hlm:(dirsK (fun k=>m.dirV (pt Ls k)) i).length < 1099511627776:=by have:=dirsK_length (fun k=>m.dirV (pt Ls k)) i;omega
   have HAL1:Hid ((pt Ls i).inB 1048576 = true->∀ j,j < i + 1->(pt Ls j).inB 1048576 = true):=fun h j hj=>by
    by_cases e:j = i
    ·subst e;exact h
    ·exact HAL.out j (by omega)
   generalize hp:pt Ls i = p at *
   have HP:Hid _:=hp
   clear hp
   have HI1:Hid _:=HIN.out p 1048576 (by decide)
   have HI2:Hid _:=HIN.out p 524288 (by decide)
   obtain ⟨px,py,pz⟩:=p
   unfold Pt.v at HI1 HI2
   dsimp only at x0 x1 x2 HI1 HI2
   go_wp2_with (fail)
   refine Calls.mono (HI1.out _) ?_
   clear HI1
   rintro e V1 ⟨rfl,hb⟩
   have x0:=c_after hb x0
   have x1:=c_after hb x1
   have x2:=c_after hb x2
   have HWS:Hid _:=HWS.out.step hb
   have HMB:Hid _:=Cells.step HMB.out hb
   clear hb
   cases hin:Pt.inB ⟨px,py,pz⟩ 1048576 with
   | false =>
    clear HI2
    go_wp2_with (fail)
    refine bodyPost_ret (v:=.tuple #[.slice none 0 0,.bool false]) (by simp [results,Tryz.results101,go_sem]) rfl ?_
    refine Or.inr ⟨g,⟨_,HMEM.out,hin⟩,rfl,?_⟩
    exact ⟨HWS.out.lv,HWS.out.fl,HWS.out.ff,World.ownsRow_nil _ _ _ _,HWS.out.hw,Nat.le_refl _⟩
   | true =>
    go_wp2_with (fail)
    refine Calls.mono (HI2.out _) ?_
    clear HI2 x0 x1 x2
    rintro e V2 ⟨rfl,hb⟩
    obtain ⟨pb,hpb⟩:∃ b,b = V1.heap.size:=⟨_,rfl⟩
    have HUP:Hid ((Value.slice uo (dirsK (fun k=>m.dirV (pt Ls k)) i).length uc).ownBlock ≠ some pb):=fun e=>by have:=(HWS.out.own.lt pb e).2;omega
    have hpw:w.heap.size <= pb:=by have:=HWS.out.lv.size;omega
    have hpm:mb ≠ pb:=by have:=Cells.lt HMB.out;omega
    have hb9:=b_step (n_after V1 (.cells #[.int .i64 px,.int .i64 py,.int .i64 pz] 45)) hb
    have HWS:Hid _:=HWS.out.step hb9
    have HMB:Hid _:=Cells.step HMB.out hb9
    have HBX:Hid (Box3 V2 pb ⟨px,py,pz⟩):=by show Box3 _ _ _;rw [hpb];exact (Box3.new V1 px py pz _).step hb
    rw [<- hpb]
    clear hb hb9 hpb
    go_upto_block 2 with fail
    go_cut [12] from 34 to 51 (fun s12 wx=>∃ q:Pt,q = Pt.long ⟨px,py,pz⟩/\Hid (Box3 wx pb q)/\Hid (WS w (mb + 1) wx wb g (.slice uo (dirsK (fun k=>m.dirV (pt Ls k)) i).length uc) (dirsK (fun k=>m.dirV (pt Ls k)) i))/\Hid (Cells wx mb [.int .i64 m.a0,.int .i64 m.a1,.int .i64 m.a2,.int .i64 m.a3,.int .i64 m.a4,.int .i64 m.a5,.int .i64 m.a6,.int .i64 m.a7,.int .i64 m.a8]))
    case first =>
     by_cases hz:(⟨px,py,pz⟩:Pt) = Pt.O
     ·simp only [Pt.O,Pt.mk.injEq] at hz
      obtain ⟨rfl,rfl,rfl⟩:=hz
      obtain ⟨c0,c1,c2,f0,f1,f2⟩:=HBX.out
      dsimp only at c0 c1 c2
      have e5:Pt.inB ⟨0,0,0⟩ 524288 = true:=by decide
      rw [e5]
      go_wp2_with (fail)
      go_loopg [12] 1 (fun gk2 s12 wr2=>s12 = .bool true/\wr2 = V2)
      case atStart=>exact ⟨rfl,rfl⟩
      case round =>
       obtain ⟨rfl,rfl⟩:=hrel
       go_wp2_with (fail)
       go_meet
       case rel=>exact ⟨_,by decide,HBX,HWS,HMB⟩
     ·have HB0:Hid (Pt.big ⟨px,py,pz⟩ (20 - 20)):=big_zero hz
      have HLO:Hid (Pt.long ⟨px,py,pz⟩ = longF 20 ⟨px,py,pz⟩):=by show _ = _;unfold Pt.long;rw [if_neg hz]
      go_wp2_with (fail)
      go_loopg [12] 20 (fun gk s12 wr2=>∃ q:Pt,s12 = .bool (q.inB 524288)/\Hid (Box3 wr2 pb q)/\Hid (WS w (mb + 1) wr2 wb g (.slice uo (dirsK (fun k=>m.dirV (pt Ls k)) i).length uc) (dirsK (fun k=>m.dirV (pt Ls k)) i))/\Hid (Cells wr2 mb [.int .i64 m.a0,.int .i64 m.a1,.int .i64 m.a2,.int .i64 m.a3,.int .i64 m.a4,.int .i64 m.a5,.int .i64 m.a6,.int .i64 m.a7,.int .i64 m.a8])/\gk <= 20/\Hid (longF gk q = Pt.long ⟨px,py,pz⟩)/\Hid (q.big (20 - gk)))
      case atStart=>exact ⟨⟨px,py,pz⟩,rfl,HBX,HWS,HMB,Nat.le_refl _,HLO.out.symm,HB0⟩
      case round =>
       clear HBX HWS HMB HB0 HLO
       obtain ⟨q,rfl,b0,hW,hM,hg,HF,HI⟩:=hrel
       have hG:Hid _:=hg
       clear hg
       cases hq:q.inB 524288 with
       | false =>
        have E9:Hid (q = Pt.long ⟨px,py,pz⟩):=by show _ = _;rw [<- HF.out];cases gk <;> simp [longF,hq]
        clear HF HI
        go_wp2_with (fail)
        go_meet
        case rel=>exact ⟨q,E9.out,b0,hW,hM⟩
       | true =>
        have h1g:=big_lt hq HI.out
        obtain ⟨g',hg'⟩:∃ g',gk = g' + 1:=⟨gk - 1,by omega⟩
        subst hg'
        obtain ⟨s1,s2,s3⟩:=long_step hq HI.out hG.out
        obtain ⟨x2,y2,z2,e1,e2,e3,e4⟩:=plus_two q
        have HJ:Hid (longF g' ⟨x2,y2,z2⟩ = Pt.long ⟨px,py,pz⟩/\Pt.big ⟨x2,y2,z2⟩ (20 - g')):=by show _/\_;rw [<- e1,<- s1];exact ⟨HF.out,s2⟩
        have hnz:=big_nz HI.out
        have HI2:Hid _:=HIN.out ⟨x2,y2,z2⟩ 524288 (by decide)
        unfold Pt.v at HI2
        dsimp only at HI2
        clear HF HI s1 s2 s3 e1 h1g hq
        obtain ⟨c0,c1,c2,f0,f1,f2⟩:=b0.out
        go_upto_region 10 with fail
        go_cut [39] from 34 to 39 (fun s39 wx=>s39 = .bool true/\wx = wr)
        case first =>
         clear HI2 hW hM b0 HJ e2 e3 e4
         go_wp2_with (fail)
         all_goals first
          | (exfalso;exact hnz (by assumption) (by assumption) (by assumption))
          | (go_meet;case rel=>exact ⟨rfl,rfl⟩)
        case rest =>
         obtain ⟨rfl,e9⟩:=hcut
         subst e9
         clear hnz
         have hM9:Hid _:=Cells.put3w hM.out hpm x2 y2 z2
         have hW9:Hid _:=hW.out.set3 hpw HUP.out x2 y2 z2
         have b9:Hid _:=b0.out.set x2 y2 z2
         clear b0 hM hW
         go_wp2_with (fail)
         refine Calls.mono (HI2.out _) ?_
         clear c0 c1 c2 f0 f1 f2
         clear HI2
         rintro e V4 ⟨rfl,hb⟩
         have b9:Hid _:=b9.out.step hb
         have hW9:Hid _:=hW9.out.step hb
         have hM9:Hid _:=Cells.step hM9.out hb
         clear hb
         go_wp2_with (fail)
         go_roundg g'
         case rel=>exact ⟨⟨x2,y2,z2⟩,rfl,b9,hW9,hM9,by have:=hG.out;omega,HJ.out.1,HJ.out.2⟩
         case measure=>omega
    case rest =>
     obtain ⟨q,e9,HPB,HWS,HMB⟩:=hcut
     obtain ⟨V,hV⟩:∃ V,V = wc:=⟨_,rfl⟩
     rw [<- hV] at HPB HWS HMB ⊢
     clear hV
     have HLM:Hid (∀ {X:World} {u:Value} {g2:Bool} {M2:List Pt},WS w (mb + 1) X wb g2 u M2->dirsK (fun k=>m.dirV (pt Ls k)) (i + 1) = M2->Cells X mb [.int .i64 m.a0,.int .i64 m.a1,.int .i64 m.a2,.int .i64 m.a3,.int .i64 m.a4,.int .i64 m.a5,.int .i64 m.a6,.int .i64 m.a7,.int .i64 m.a8]->g2 = (f || anyK (fun k=>m.dirB (pt Ls k)) (i + 1))->∃ (i2:Nat) (g:Bool) (u2:Value),(Value.int .i64 ((i + 1:Nat):Int)) = .int .i64 (i2:Int)/\u = u2/\i2 <= Ls.length/\Ls.length - (i + 1) = Ls.length - i2/\Hid (WS w (mb + 1) X wb g u2 (dirsK (fun k=>m.dirV (pt Ls k)) i2))/\Hid (Cells X mb [.int .i64 m.a0,.int .i64 m.a1,.int .i64 m.a2,.int .i64 m.a3,.int .i64 m.a4,.int .i64 m.a5,.int .i64 m.a6,.int .i64 m.a7,.int .i64 m.a8])/\Hid (g = (f || anyK (fun k=>m.dirB (pt Ls k)) i2))/\Hid (∀ j,j < i2->(pt Ls j).inB 1048576 = true)):=by
      intro X u g2 M2 h1 h2 h3 h4
      exact ⟨i + 1,g2,u,rfl,rfl,by omega,rfl,by rw [h2];exact h1,h3,h4,HAL1.out hin⟩
     obtain ⟨M,hM⟩:∃ M,M = dirsK (fun k=>m.dirV (pt Ls k)) i:=⟨_,rfl⟩
     rw [<- hM] at HWS HUP HK1 hlm ⊢
     clear hM
     obtain ⟨u,hu⟩:∃ u,u = Value.slice uo M.length uc:=⟨_,rfl⟩
     rw [<- hu] at HWS HUP ⊢
     have HU:Hid _:=hu
     clear hu
     obtain ⟨nq,hn⟩:∃ n,n = q.times 4096:=⟨_,rfl⟩
     obtain ⟨vq,hvq⟩:∃ v,v = (m.turn nq).getD Pt.O:=⟨_,rfl⟩
     obtain ⟨bd,hbd⟩:∃ b,b = (m.turn nq).isNone:=⟨_,rfl⟩
     have HDP:Hid (m.dirV ⟨px,py,pz⟩ = (vq.quo 4096).short/\m.dirB ⟨px,py,pz⟩ = bd):=by
      show _/\_
      rw [HDV.out,(HDT.out _).1,(HDT.out _).2,<- e9,<- hn,<- hvq,<- hbd];exact ⟨rfl,rfl⟩
     have HTI:Hid _:=fun w'=>rtimes6_any q 4096 w'
     have HTU:Hid _:=fun (w':World) (g:Bool)=>HTU0.out nq w' g
     rw [<- hn] at HTI
     rw [<- hvq,<- hbd] at HTU
     have HSH:Hid _:=fun w'=>rshort_any (vq.quo 4096) w'
     rw [<- HDP.out.1] at HSH
     have hwV:wb < V.heap.size:=World.block_lt_of_cell? _ _ HWS.out.fl
     have hpn:pb ≠ wb:=by omega
     have HUV:Hid (∀ b,u.ownBlock = some b->b < V.heap.size):=fun b e=>(HWS.out.own.lt b e).2
     have hmV:mb < V.heap.size:=Cells.lt HMB.out
     have hpV:pb < V.heap.size:=HPB.out.lt
     have hsV:w.heap.size <= V.heap.size:=HWS.out.lv.size
     clear hn hvq hbd e9
     obtain ⟨sp,hsp⟩:∃ s,s = m.dirV ⟨px,py,pz⟩:=⟨_,rfl⟩
     rw [<- hsp] at HSH HK1
     rw [HDP.out.2] at HK2
     clear HDP hsp HDV HDT HTU0 HIN HCL HNE
     rw [show vq.quo 4096 = ⟨wrap64 (vq.x.tdiv 4096),wrap64 (vq.y.tdiv 4096),wrap64 (vq.z.tdiv 4096)⟩ from rfl] at HSH
     obtain ⟨qx,qy,qz⟩:=q
     obtain ⟨nx,ny,nz⟩:=nq
     obtain ⟨vx,vy,vz⟩:=vq
     unfold Pt.v at HTI HTU HSH
     unfold M9.v at HTU
     dsimp only at HTI HTU HSH
     go_upto_region 13 with fail
     go_cut [13] from 52 to 56 (fun s13 wx=>∃ b3,s13 = .pointer (some ⟨b3,0,none⟩)/\Hid (WS w (mb + 1) wx wb (g || bd) u M)/\Hid (Cells wx mb [.int .i64 m.a0,.int .i64 m.a1,.int .i64 m.a2,.int .i64 m.a3,.int .i64 m.a4,.int .i64 m.a5,.int .i64 m.a6,.int .i64 m.a7,.int .i64 m.a8])/\Cells wx b3 [.int .i64 vx,.int .i64 vy,.int .i64 vz])
     case first =>
      obtain ⟨wO,rfl⟩:∃ wO,wO = w:=⟨_,rfl⟩
      refine RV.rs [.some (.pointer (some ⟨wb,0,none⟩)),.some (.agg #[.int .i64 m.a0,.int .i64 m.a1,.int .i64 m.a2,.int .i64 m.a3,.int .i64 m.a4,.int .i64 m.a5,.int .i64 m.a6,.int .i64 m.a7,.int .i64 m.a8]),.some (.agg #[.int .i64 qx,.int .i64 qy,.int .i64 qz]),.some (.agg #[.int .i64 nx,.int .i64 ny,.int .i64 nz]),.some (.agg #[.int .i64 vx,.int .i64 vy,.int .i64 vz]),none,none] [53,54,55,56,57,14,0] [(0,.pointer (some ⟨wb,0,none⟩)),(4,.pointer (some ⟨mb,0,none⟩)),(11,.pointer (some ⟨pb,0,none⟩))] (fun γ L w9=>WS wO (mb + 1) w9 wb (g || (L 4 && bd)) u M/\Cells w9 mb [.int .i64 m.a0,.int .i64 m.a1,.int .i64 m.a2,.int .i64 m.a3,.int .i64 m.a4,.int .i64 m.a5,.int .i64 m.a6,.int .i64 m.a7,.int .i64 m.a8]/\Box3 w9 pb ⟨qx,qy,qz⟩/\RV.Pend V 23 5 6 #[.int .i64 vx,.int .i64 vy,.int .i64 vz] γ L w9/\V.heap.size <= w9.heap.size) ⟨rfl,rfl,rfl,trivial⟩ ?_ ?_ ?_
      ·have b9:Below V.heap.size V V.drew:=(Below.refl _ _).drew;simp only [Bool.false_and,Bool.or_false];exact ⟨HWS.out.step b9,HMB.out.step b9,HPB.out.step b9,RV.Pend.start rfl,Nat.le_refl _⟩
      ·intro D WA Z hD hWA hZ T
       simp only [RV.Outs,RV.Slots,Nat.reduceAdd] at T
       iterate 3 first
        | (refine RV.cc _ (RV.pu T (fun γ v L w hl h=>⟨by rw [RV.mn (L:=L) (i:=_) (j:=4) (by decide)];exact h.1,h.2.1,h.2.2.1,h.2.2.2.1.other v (by decide) (by decide),h.2.2.2.2⟩) (fun γ L a w hH hl h9 k9=>⟨_,?_,rfl⟩)) ?_;· simp [execOp,go_sem,h9])
        | (refine RV.cc _ (RV.pu T (fun γ v L w hl h=>⟨by rw [RV.mn (L:=L) (i:=_) (j:=4) (by decide)];exact h.1,h.2.1,h.2.2.1,h.2.2.2.1.other v (by decide) (by decide),h.2.2.2.2⟩) (fun γ L a w hH hl h9 k9=>⟨_,?_,rfl⟩)) ?_;· have wz0:=(hH.glob.2.1 0 _ rfl).1;have wz1:=(hH.glob.2.1 1 _ rfl).1;have wz2:=(hH.glob.2.1 2 _ rfl).1;have wz3:=(hH.glob.2.1 3 _ rfl).1;have wz4:=(hH.glob.2.1 4 _ rfl).1;have wz5:=(hH.glob.2.1 5 _ rfl).1;have wz6:=(hH.glob.2.1 6 _ rfl).1;have wz7:=(hH.glob.2.1 7 _ rfl).1;have wz8:=(hH.glob.2.1 8 _ rfl).1;simp [execOp,go_sem,h9,wz0,wz1,wz2,wz3,wz4,wz5,wz6,wz7,wz8])
        | (refine RV.cc _ (RV.pu T (fun γ v L w hl h=>⟨by rw [RV.mn (L:=L) (i:=_) (j:=4) (by decide)];exact h.1,h.2.1,h.2.2.1,h.2.2.2.1.other v (by decide) (by decide),h.2.2.2.2⟩) (fun γ L a w hH hl h9 k9=>⟨_,?_,rfl⟩)) ?_;· have wz0:=hH.glob.2.2.1.c0;have wz1:=hH.glob.2.2.1.c1;have wz2:=hH.glob.2.2.1.c2;simp [execOp,go_sem,h9,wz0,wz1,wz2])
       refine RV.cc _ (RV.dc (fun γ L a w hH hl hA=>by have h9:=T γ L a w hH;have k9:=hA;simp [Region.binds] at k9;refine ⟨99,#[.agg #[.int .i64 qx,.int .i64 qy,.int .i64 qz],.int .i64 4096],by simp [go_sem,h9,k9],Calls.mono (HTI.out w) ?_⟩;rintro e w2 ⟨rfl,hb⟩;have hG:=hH.glob;exact ⟨_,rfl,rfl,fun j v _ h=>h.keep _,by rw [RV.mn (L:=L) (i:=3) (j:=4) (by decide)];exact hG.1.step hb,hG.2.1.step hb,hG.2.2.1.step hb,(hG.2.2.2.1.below hb).other _ (by decide) (by decide),Nat.le_trans hG.2.2.2.2 hb.size⟩)) ?_
       refine RV.cc _ (RV.dc (fun γ L a w hH hl hA=>by have h9:=T γ L a w hH;have k9:=hA;simp [Region.binds] at k9;have hG:=hH.glob;rw [hl] at hG;refine ⟨98,#[.pointer (some ⟨wb,0,none⟩),.agg #[.int .i64 m.a0,.int .i64 m.a1,.int .i64 m.a2,.int .i64 m.a3,.int .i64 m.a4,.int .i64 m.a5,.int .i64 m.a6,.int .i64 m.a7,.int .i64 m.a8],.agg #[.int .i64 nx,.int .i64 ny,.int .i64 nz]],by simp [go_sem,h9,k9],Calls.mono (HTU.out w _ hG.1.fl hG.1.ff) ?_⟩;rintro e w2 ⟨rfl,A⟩;have A9:=A.out;exact ⟨_,rfl,rfl,fun j v _ h=>h.keep _,by rw [RV.more_self];have h8:=hG.1.after A9;simpa using h8,hG.2.1.beside A9 hmw,hG.2.2.1.after A9 hpn,(hG.2.2.2.1.after A9 hwV).other _ (by decide) (by decide),Nat.le_trans hG.2.2.2.2 A9.size⟩)) ?_
       refine RV.cc _ (RV.does_step (fun γ L a w hH hl hA=>by have hG:=hH.glob;have h12:L 6 = false:=RV.ny hH (RV.wt (j:=6) (i:=5) hWA (by kernel_rfl)) hl;exact ⟨.pointer (some ⟨w.heap.size,0,none⟩),w.alloc (.cells #[.int .i64 0,.int .i64 0,.int .i64 0] 23),by simp [execOp,go_sem],trivial,fun j v _ h=>h.keep _,by rw [RV.mn (L:=L) (i:=5) (j:=4) (by decide)];exact hG.1.step (n_after _ _),hG.2.1.step (n_after _ _),hG.2.2.1.step (n_after _ _),RV.Pend.made _ rfl hG.2.2.2.2 h12 (by decide),by rw [World.size_alloc];have h8:=hG.2.2.2.2;omega⟩)) ?_
       refine RV.cc _ (RV.does_store (fun γ L a w hH hl hA=>by have h9:=T γ L a w hH;have k9:=hA;simp [Region.binds] at k9;have l0:L 5 = true:=hA ⟨5,.data⟩ (by simp) rfl;have e0:=hH.slot 5 13 (by rw [<- hD];rfl) l0;have hG:=hH.glob;obtain ⟨b,cs,hb1,hb2,hb3,hb4,_⟩:=hG.2.2.2.1 l0;rw [hb1] at e0;obtain ⟨u0,u1,u2,rfl⟩:=arr3' hb4;have wz0:w.cell? ⟨b,0,none⟩ = some u0:=(by simp [World.cell?,hb3]);have wz1:w.cell? ⟨b,1,none⟩ = some u1:=(by simp [World.cell?,hb3]);have wz2:w.cell? ⟨b,2,none⟩ = some u2:=(by simp [World.cell?,hb3]);have zf:∀ o,w.frozen? ⟨b,o,none⟩ = false:=fun o=>(by simp [World.frozen?,hb3]);have n1:mb ≠ b:=(by omega);have n2:b ≠ pb:=(by omega);have n5:u.ownBlock ≠ some b:=(fun e=>by have h7:=HUV.out b e;omega);exact ⟨(((w.setCell ⟨b,0,none⟩ (.int .i64 vx)).setCell ⟨b,1,none⟩ (.int .i64 vy)).setCell ⟨b,2,none⟩ (.int .i64 vz)),by simp [execOp,go_sem,e0,wz0,wz1,wz2,zf,h9,k9],trivial,fun j v _ h=>h.keep _,by rw [RV.mn (L:=L) (i:=6) (j:=4) (by decide)];exact hG.1.set3 (by omega) n5 vx vy vz,((Cells.apart hG.2.1 n1 0 _).apart n1 1 _).apart n1 2 _,hG.2.2.1.other n2 vx vy vz,RV.Pend.filled hb1 hb2 (by have q0:=Go.heap_setCell_same w b 0 _ _ (.int .i64 vx) hb3;have q1:=Go.heap_setCell_same _ b 1 _ _ (.int .i64 vy) q0;have q2:=Go.heap_setCell_same _ b 2 _ _ (.int .i64 vz) q1;simpa using q2) (by decide) _,by have h8:=hG.2.2.2.2;simpa [World.setCell] using h8⟩)) ?_
       exact RV.AllDo.nil
      ·intro γ w5 L9 hL hI9 hG9
       have hG:=hG9
       rw [hL 4 (by decide)] at hG
       obtain ⟨b3,cs,hb1,hb2,hb3,_,hb5⟩:=hG.2.2.2.1 (hL 5 (by decide))
       rw [hb5 (hL 6 (by decide))] at hb3
       clear hL hb5 hI9 hG9
       simp only [RV.putL,Act.put,List.setIfInBounds_toArray,List.set_cons_zero,List.set_cons_succ,Nat.reduceAdd]
       rw [hb1]
       have C3:Cells w5 b3 [.int .i64 vx,.int .i64 vy,.int .i64 vz]:=fun i v e=>⟨by simp [World.cell?,hb3];exact e,by simp [World.frozen?,hb3]⟩
       have HW9:Hid (WS wO (mb + 1) w5 wb (g || bd) u M):=by show WS _ _ _ _ _ _ _;have h9:=hG.1;simpa using h9
       have HM9:Hid (Cells w5 mb [.int .i64 m.a0,.int .i64 m.a1,.int .i64 m.a2,.int .i64 m.a3,.int .i64 m.a4,.int .i64 m.a5,.int .i64 m.a6,.int .i64 m.a7,.int .i64 m.a8]):=hG.2.1
       clear hG hb1 hb3
       go_wp2_with (fail)
       go_meet
       case rel=>exact ⟨b3,rfl,HW9,HM9,C3⟩
     case rest =>
      clear HWS HMB HPB HTI HTU HUV
      obtain ⟨b3,rfl,HWS,HMB,C3⟩:=hcut
      obtain ⟨c0,d0⟩:=C3 0 _ rfl
      obtain ⟨c1,d1⟩:=C3 1 _ rfl
      obtain ⟨c2,d2⟩:=C3 2 _ rfl
      clear C3
      go_wp2_with (fail)
      refine Calls.mono (HSH.out _) ?_
      rintro e V5 ⟨rfl,hb⟩
      have HWS:Hid _:=HWS.out.step hb
      have HMB:Hid _:=Cells.step HMB.out hb
      clear hb HSH c0 d0 c1 d1 c2 d2
      obtain ⟨sx,sy,sz⟩:=sp
      dsimp only
      go_upto_region 15 with fail
      obtain ⟨V6,hV6⟩:∃ X,X = V5.alloc (.cells #[.int .i64 sx,.int .i64 sy,.int .i64 sz] 45):=⟨_,rfl⟩
      obtain ⟨nb,hnb⟩:∃ b,b = V5.heap.size:=⟨_,rfl⟩
      have HB6:Hid (Box3 V6 nb ⟨sx,sy,sz⟩):=by show Box3 _ _ _;rw [hV6,hnb];exact Box3.new V5 sx sy sz _
      have HWS:Hid (WS w (mb + 1) V6 wb (g || bd) u M):=by show WS _ _ _ _ _ _ _;rw [hV6];exact HWS.out.step (n_after _ _)
      have HMB:Hid (Cells V6 mb [.int .i64 m.a0,.int .i64 m.a1,.int .i64 m.a2,.int .i64 m.a3,.int .i64 m.a4,.int .i64 m.a5,.int .i64 m.a6,.int .i64 m.a7,.int .i64 m.a8]):=by show Cells _ _ _;rw [hV6];exact Cells.step HMB.out (n_after _ _)
      rw [<- hV6,<- hnb]
      clear hV6 hnb
      have HGD:Hid ((g || bd) = (f || anyK (fun k=>m.dirB (pt Ls k)) (i + 1))):=by show _ = _;rw [HK2.out,HGB.out,Bool.or_assoc]
      have hu:=HU.out
      subst hu
      obtain ⟨c0,c1,c2,f0,f1,f2⟩:=HB6.out
      dsimp only at c0 c1 c2
      by_cases hz:(⟨sx,sy,sz⟩:Pt) = Pt.O
      ·have HK:Hid (dirsK (fun k=>m.dirV (pt Ls k)) (i + 1) = M):=by show _ = _;rw [HK1.out,if_pos hz]
       simp only [Pt.O,Pt.mk.injEq] at hz
       obtain ⟨rfl,rfl,rfl⟩:=hz
       go_wp2_with (fail)
       go_roundg (Ls.length - (i + 1))
       case rel=>exact HLM.out HWS.out HK.out HMB.out HGD.out
       case measure=>have:=HG1.out;omega
      ·have HK:Hid (dirsK (fun k=>m.dirV (pt Ls k)) (i + 1) = M ++ [⟨sx,sy,sz⟩]):=by show _ = _;rw [HK1.out,if_neg hz]
       have hnz:sx = 0->sy = 0->¬ sz = 0:=fun a b c=>hz (by rw [a,b,c];rfl)
       clear hz
       go_cut [70] from 67 to 70 (fun s70 wx=>s70 = .bool true/\wx = V6)
       case first =>
        clear HWS HMB HB6 HK HGD HLM HK1 HK2
        go_wp2_with (fail)
        all_goals first
         | (exfalso;exact hnz (by assumption) (by assumption) (by assumption))
         | (go_meet;case rel=>exact ⟨rfl,rfl⟩)
       case rest =>
        obtain ⟨rfl,e9⟩:=hcut
        subst e9
        clear hnz
        have HUM:Hid (∀ r,(Value.slice uo M.length uc).ownBlock = some r->r ≠ mb):=fun r e=>by have:=(HWS.out.own.lt r e).1;omega
        have hs6:mb + 1 <= wc.heap.size:=by have:=Cells.lt HMB.out;omega
        go_wp2_with (at_builtin;refine wpList_append_own _ rfl _ _ 26 rfl (mb + 1) 45 i0 _ 3 24 Tryz.underlying26 HI.out.1 HI.out.2.1 HI.out.2.2.1 HI.out.2.2.2 rfl (by decide) _ _ _ rfl (HWS.out.step (n_after _ (.cells #[.int .i64 sx,.int .i64 sy,.int .i64 sz] 45))).own ⟨wc.heap.size,0,none⟩ 1 1 [.int .i64 sx,.int .i64 sy,.int .i64 sz] rfl rfl (news_at (heap_alloc_new wc _)) (by intro u hu;simp at hu;rcases hu with rfl | rfl | rfl <;> rfl) (by unfold maxLen;omega) (by omega) (by simp;omega) ?_;intro u9 V2 r8 g8 _;obtain ⟨gg8,kk8,rfl⟩:=ownsRow_succ r8;have HWS2:Hid _:=(HWS.out.step (n_after _ _)).app (p:=⟨sx,sy,sz⟩) r8 g8;have HMB2:Hid _:=(Cells.step HMB.out (n_after _ _)).grew g8 HUM.out;clear r8 g8 c0 c1 c2 f0 f1 f2 HWS HMB HB6)
        go_roundg (Ls.length - (i + 1))
        case rel=>exact HLM.out HWS2.out HK.out HMB2.out HGD.out
        case measure=>have:=HG1.out;omega
  ·obtain rfl:i = Ls.length:=by omega
   have e9:dirsK (fun k=>m.dirV (pt Ls k)) Ls.length = m.dirs Ls:=by unfold dirsK M9.dirs;rw [firsts_map]
   go_wp2_with (fail)
   refine bodyPost_ret (v:=.tuple #[.slice uo (dirsK (fun k=>m.dirV (pt Ls k)) Ls.length).length uc,.bool true]) (by simp [results,Tryz.results101,go_sem]) rfl ?_
   refine Or.inl ⟨_,fun q hq=>?_,rfl,?_⟩
   ·obtain ⟨j,hj,e⟩:=pt_of_mem hq
    rw [<- e];exact HAL.out j hj
   ·have h9:=HWS.out
    rw [HGB.out,anyK_any] at h9
    rw [<- e9]
    exact h9.le
end
section
open Go.RowKit Go.Shelf
structure KB (w0 X:World) (n0:Nat) (bs:List (Nat × List Value)) (b:Nat) (cs:List Value):Prop where
 below:Below w0.heap.size w0 X
 fix:∀ p ∈ bs,p.1 < n0/\p.1 ≠ b/\Cells X p.1 p.2
 box:Cells X b cs
 lt:b < n0
 ge:w0.heap.size <= b
 hn:w0.heap.size <= n0
 hx:n0 <= X.heap.size
section
variable {w0 X Y:World} {n0 b:Nat} {bs:List (Nat × List Value)} {cs:List Value}
theorem KB.step (h:KB w0 X n0 bs b cs) (hb:Below X.heap.size X Y):KB w0 Y n0 bs b cs:=
 ⟨b_step h.below hb,fun p hp=>⟨(h.fix p hp).1,(h.fix p hp).2.1,(h.fix p hp).2.2.step hb⟩,h.box.step hb,h.lt,h.ge,h.hn,Nat.le_trans h.hx hb.size⟩
theorem KB.grew (h:KB w0 X n0 bs b cs) {row:Option Nat} (hg:X.grownBy Y row) (hr:∀ r,row = some r->n0 <= r):KB w0 Y n0 bs b cs:=by
 have hB:Below w0.heap.size X Y:=⟨hg.os,hg.tape,hg.output,hg.size,fun k hk=>hg.block k (by have:=h.hx;have:=h.hn;omega) (fun e=>by have:=hr k e.symm;have:=h.hn;omega)⟩
 refine ⟨h.below.trans hB,fun p hp=>⟨(h.fix p hp).1,(h.fix p hp).2.1,(h.fix p hp).2.2.grew hg (fun r e=>by have:=hr r e;have:=(h.fix p hp).1;omega)⟩,h.box.grew hg (fun r e=>by have:=hr r e;have:=h.lt;omega),h.lt,h.ge,h.hn,Nat.le_trans h.hx hg.size⟩
theorem KB.put (h:KB w0 X n0 bs b cs) (k:Nat) (v:Value) (hk:k < cs.length):KB w0 (X.setCell ⟨b,k,none⟩ v) n0 bs b (cs.set k v):=
 ⟨h.below.setCell h.ge _,fun p hp=>⟨(h.fix p hp).1,(h.fix p hp).2.1,(h.fix p hp).2.2.apart (h.fix p hp).2.1 _ _⟩,h.box.set k v hk,h.lt,h.ge,h.hn,by simpa [World.setCell] using h.hx⟩
theorem KB.at (h:KB w0 X n0 bs b cs) {c:Nat} {vs:List Value} (hm:(c,vs) ∈ bs):Cells X c vs:=(h.fix _ hm).2.2
end
theorem KB.start4 (w0:World) (l1 l2 l3 l4:List Value) (t1 t2 t3 t4:TypeId) :
  KB w0 ((((w0.alloc (.cells l1.toArray t1)).alloc (.cells l2.toArray t2)).alloc (.cells l3.toArray t3)).alloc (.cells l4.toArray t4)) (w0.heap.size + 4) [(w0.heap.size,l1),(w0.heap.size + 1,l2),(w0.heap.size + 1 + 1,l3)] (w0.heap.size + 1 + 1 + 1) l4:=by
 have c1:=(((Cells.new w0 l1 t1).step (n_after _ (.cells l2.toArray t2))).step (n_after _ (.cells l3.toArray t3))).step (n_after _ (.cells l4.toArray t4))
 have c2:=((Cells.new (w0.alloc (.cells l1.toArray t1)) l2 t2).step (n_after _ (.cells l3.toArray t3))).step (n_after _ (.cells l4.toArray t4))
 have c3:=(Cells.new ((w0.alloc (.cells l1.toArray t1)).alloc (.cells l2.toArray t2)) l3 t3).step (n_after _ (.cells l4.toArray t4))
 have c4:=Cells.new (((w0.alloc (.cells l1.toArray t1)).alloc (.cells l2.toArray t2)).alloc (.cells l3.toArray t3)) l4 t4
 simp only [World.size_alloc] at c2 c3 c4
 refine ⟨b_step (b_step (b_step (n_after _ _) (n_after _ _)) (n_after _ _)) (n_after _ _),fun p hp=>?_,c4,by omega,by omega,by omega,by simp⟩
 simp only [List.mem_cons,List.not_mem_nil,or_false] at hp
 rcases hp with rfl | rfl | rfl
 ·exact ⟨by show _ < _;omega,by show _ ≠ _;omega,c1⟩
 ·exact ⟨by show _ < _;omega,by show _ ≠ _;omega,c2⟩
 ·exact ⟨by show _ < _;omega,by show _ ≠ _;omega,c3⟩
end
section
open Go.RowKit Ref Fx
theorem Ho.lay {W V:World} {p:Addr} {po:Nat} {f g:Bool} {l:List (Addr × Value)} (h:Ho W V p po f g l) (cs:Array Value) (t:TypeId) (k:List (Addr × Value)) (hk:∀ c ∈ k,∃ i:Nat,c.1 = ⟨V.heap.size,i,none⟩/\cs[i]? = some c.2):Ho W (V.alloc (.cells cs t)) p po f g (k ++ l):=by
 have h2:=h.alloc (.cells cs t)
 have hlt:=World.block_lt_of_cell? _ _ h.own
 dsimp only at hlt
 refine ⟨h2.leaves,h2.flag,h2.flagf,h2.own,h2.ownf,fun c hc=>?_,fun c hc=>?_,h2.hp,h2.ho⟩
 ·rcases List.mem_append.1 hc with hc | hc
  ·obtain ⟨i,e,hi⟩:=hk c hc
   rw [e]
   exact ⟨by rw [World.cell?_alloc_at _ _ _ _ rfl];exact hi,by simp [go_sem]⟩
  ·exact h2.fix c hc
 ·rcases List.mem_append.1 hc with hc | hc
  ·obtain ⟨i,e,hi⟩:=hk c hc
   rw [e];show V.heap.size ≠ po;omega
  ·exact h2.far c hc
end
section
open Go.RowKit Ref Fx
theorem row2 {w:World} {b:Nat} {x y:Int} (h0:w.cell? ⟨b,0,none⟩ = some (.int .i64 x)) (h1:w.cell? ⟨b,1,none⟩ = some (.int .i64 y)):NRow w (some ⟨b,0,none⟩) [x,y]:=
 Or.inr ⟨b,0,rfl,fun k hk=>by
  match k,hk with
  | 0,_=>exact h0
  | 1,_=>exact h1⟩
def celL (b:Nat):Nat->List Int->List (Addr × Value)
 | _,[]=>[]
 | n,v :: r=>(⟨b,n,none⟩,.int .i64 v) :: celL b (n + 1) r
theorem celL_mem {b:Nat}:∀ {l:List Int} {n:Nat} {c:Addr × Value},c ∈ celL b n l->∃ i,i < l.length/\c = (⟨b,n + i,none⟩,.int .i64 (l.getD i 0))
 | [],_,_,h=>by simp [celL] at h
 | v :: r,n,c,h=>by
  unfold celL at h
  rcases List.mem_cons.1 h with rfl | h
  ·exact ⟨0,by simp,rfl⟩
  ·obtain ⟨i,hi,rfl⟩:=celL_mem h
   exact ⟨i + 1,by simpa using hi,by rw [show n + 1 + i = n + (i + 1) by omega];rfl⟩
theorem celL_at {b:Nat}:∀ {l:List Int} {n i:Nat},i < l.length->((⟨b,n + i,none⟩,.int .i64 (l.getD i 0)):Addr × Value) ∈ celL b n l
 | [],_,_,h=>by simp at h
 | v :: r,n,0,_=>by unfold celL;exact List.mem_cons_self
 | v :: r,n,i + 1,h=>by
  unfold celL
  have:=celL_at (b:=b) (l:=r) (n:=n + 1) (i:=i) (by simpa using h)
  rw [show n + 1 + i = n + (i + 1) by omega] at this
  exact List.mem_cons_of_mem _ this
section
variable {W V:World} {p:Addr} {po:Nat} {f g:Bool} {b:Nat} {l:List Int} {K:List (Addr × Value)}
theorem Ho.atC (h:Ho W V p po f g (celL b 0 l ++ K)) (i:Nat) (hi:i < l.length):V.cell? ⟨b,i,none⟩ = some (.int .i64 (l.getD i 0))/\V.frozen? ⟨b,i,none⟩ = false:=by
 have:=celL_at (b:=b) (n:=0) hi
 rw [Nat.zero_add] at this
 exact h.fix _ (List.mem_append_left _ this)
theorem Ho.putC (h:Ho W V p po f g (celL b 0 l ++ K)) (i:Nat) (hi:i < l.length) (v:Int) (hK:∀ c ∈ K,c.1.block ≠ b) (hw:W.heap.size <= b) (hpo:b ≠ po) (hap:b ≠ p.block):Ho W (V.setCell ⟨b,i,none⟩ (.int .i64 v)) p po f g (celL b 0 (l.set i v) ++ K):=by
 have far:∀ q:Addr,q.block ≠ b->(V.setCell ⟨b,i,none⟩ (.int .i64 v)).cell? q = V.cell? q:=fun q hq=>World.cell?_of_block (w:=V) (Below.heap_setCell V ⟨b,i,none⟩ (.int .i64 v) q.block hq)
 have h0:=h.atC i hi
 refine ⟨h.leaves.set hw _,(far p (Ne.symm hap)).trans h.flag,by rw [World.frozen?_setCell];exact h.flagf,(far _ (Ne.symm hpo)).trans h.own,by rw [World.frozen?_setCell];exact h.ownf,fun c hc=>?_,fun c hc=>?_,h.hp,h.ho⟩
 ·rcases List.mem_append.1 hc with hc | hc
  ·obtain ⟨j,hj,rfl⟩:=celL_mem hc
   rw [List.length_set] at hj
   rw [Nat.zero_add]
   have h1:=h.atC j hj
   refine ⟨?_,by rw [World.frozen?_setCell];exact h1.2⟩
   by_cases e:i = j
   ·subst e
    have e2:(l.set i v).getD i 0 = v:=by simp [List.getD_eq_getElem?_getD,hi]
    dsimp only
    rw [e2]
    exact World.cell?_setCell_same' _ _ _ (by rw [h0.1];rfl)
   ·have e2:(l.set i v).getD j 0 = l.getD j 0:=by simp [List.getD_eq_getElem?_getD,e]
    dsimp only
    rw [e2,World.cell?_setCell_other _ _ _ _ (fun e9=>e (by have e8:=congrArg Addr.off e9;dsimp only at e8;omega))]
    exact h1.1
  ·have h1:=h.fix c (List.mem_append_right _ hc)
   exact ⟨(far _ (hK c hc)).trans h1.1,by rw [World.frozen?_setCell];exact h1.2⟩
 ·rcases List.mem_append.1 hc with hc | hc
  ·obtain ⟨j,hj,rfl⟩:=celL_mem hc
   exact hpo
  ·exact h.far c (List.mem_append_right _ hc)
end
theorem rd2 {W Y:World} {p:Addr} {po:Nat} {f g:Bool} {l:List (Addr × Value)} (x0 x1 y0 y1:Int) (h:Ho W Y p po f g l) :
  Calls Tryz.prog 133 #[.pointer (some ⟨po,0,none⟩),.slice (some ⟨Y.heap.size,0,none⟩) 2 2,.slice (some ⟨Y.heap.size + 1,0,none⟩) 2 2] ((Y.alloc (.cells #[.int .i64 x0,.int .i64 x1] 3)).alloc (.cells #[.int .i64 y0,.int .i64 y1] 3)) fun e W'=>∃ v g',e = .returned (.int .i64 v)/\Hid (Step g (dot [x0,x1] [y0,y1]) v g')/\Hid (Ho W W' p po f g' l):=by
 have HH:=(h.alloc (.cells #[.int .i64 x0,.int .i64 x1] 3)).alloc (.cells #[.int .i64 y0,.int .i64 y1] 3)
 exact (rdot_law po 0 g [x0,x1] [y0,y1] (some ⟨Y.heap.size,0,none⟩) (some ⟨Y.heap.size + 1,0,none⟩) 2 2 _ HH.own HH.ownf (by simp) (by simp) (row2 (by simp [go_sem]) (by simp [go_sem])) (row2 (by simp [go_sem]) (by simp [go_sem]))).mono (by rintro e W' ⟨v,g',rfl,S,A⟩;exact ⟨v,g',rfl,S,HH.after A.out⟩)
theorem sub_add_none {q:Int} (h:(sub 0 q).isNone = true):(add q q).isNone = true:=by
 rcases neg_is q with ⟨_,a,_⟩ | ⟨a,_,_⟩
 ·simp [add,a]
 ·rw [a] at h;cases h
theorem rows_chain {f g1 g2 g3 g4 g5 g6 g7 g8 g9 g10 g11 g12 g13 g14 g15 g16 g17 g18 g19:Bool} {q0 q1 q2 q3 t0 t1 t2 t3 n1 n2 n3 d0 s0 d1 d2 d3 d4 s4 d5 d6 d7 d8 s8:Int} (h1:Step false (add q0 q0) t0 g1) (h2:Step g1 (add q1 q1) t1 g2) (h3:Step g2 (add q2 q2) t2 g3) (h4:Step g3 (add q3 q3) t3 g4) (h5:Step g4 (sub 0 q1) n1 g5) (h6:Step g5 (sub 0 q2) n2 g6) (h7:Step g6 (sub 0 q3) n3 g7) (h8:Step g7 (dot [t2,t3] [q2,q3]) d0 g8) (h9:Step g8 (sub 4294967296 d0) s0 g9) (h10:Step g9 (dot [t1,t0] [q2,n3]) d1 g10) (h11:Step g10 (dot [t1,t0] [q3,q2]) d2 g11) (h12:Step g11 (dot [t1,t0] [q2,q3]) d3 g12) (h13:Step g12 (dot [t1,t3] [q1,q3]) d4 g13) (h14:Step g13 (sub 4294967296 d4) s4 g14) (h15:Step g14 (dot [t2,t0] [q3,n1]) d5 g15) (h16:Step g15 (dot [t1,t0] [q3,n2]) d6 g16) (h17:Step g16 (dot [t2,t0] [q3,q1]) d7 g17) (h18:Step g17 (dot [t1,t2] [q1,q2]) d8 g18) (h19:Step g18 (sub 4294967296 d8) s8 g19) :
  cond g19 0 s0 = cond (rowsBad q0 q1 q2 q3) 0 (rowsAt0 q0 q1 q2 q3)/\cond g19 0 d1 = cond (rowsBad q0 q1 q2 q3) 0 (rowsAt1 q0 q1 q2 q3)/\cond g19 0 d2 = cond (rowsBad q0 q1 q2 q3) 0 (rowsAt2 q0 q1 q2 q3)/\cond g19 0 d3 = cond (rowsBad q0 q1 q2 q3) 0 (rowsAt3 q0 q1 q2 q3)/\cond g19 0 s4 = cond (rowsBad q0 q1 q2 q3) 0 (rowsAt4 q0 q1 q2 q3)/\cond g19 0 d5 = cond (rowsBad q0 q1 q2 q3) 0 (rowsAt5 q0 q1 q2 q3)/\cond g19 0 d6 = cond (rowsBad q0 q1 q2 q3) 0 (rowsAt6 q0 q1 q2 q3)/\cond g19 0 d7 = cond (rowsBad q0 q1 q2 q3) 0 (rowsAt7 q0 q1 q2 q3)/\cond g19 0 s8 = cond (rowsBad q0 q1 q2 q3) 0 (rowsAt8 q0 q1 q2 q3)/\(f || g19) = (f || rowsBad q0 q1 q2 q3):=by
 obtain ⟨rfl,e1⟩:=h1
 obtain ⟨rfl,e2⟩:=h2
 obtain ⟨rfl,e3⟩:=h3
 obtain ⟨rfl,e4⟩:=h4
 obtain ⟨rfl,e5⟩:=h5
 obtain ⟨rfl,e6⟩:=h6
 obtain ⟨rfl,e7⟩:=h7
 obtain ⟨rfl,e8⟩:=h8
 obtain ⟨rfl,e9⟩:=h9
 obtain ⟨rfl,e10⟩:=h10
 obtain ⟨rfl,e11⟩:=h11
 obtain ⟨rfl,e12⟩:=h12
 obtain ⟨rfl,e13⟩:=h13
 obtain ⟨rfl,e14⟩:=h14
 obtain ⟨rfl,e15⟩:=h15
 obtain ⟨rfl,e16⟩:=h16
 obtain ⟨rfl,e17⟩:=h17
 obtain ⟨rfl,e18⟩:=h18
 obtain ⟨rfl,e19⟩:=h19
 have hb:g19 = rowsBad q0 q1 q2 q3:=by
  rw [e19,e18,e17,e16,e15,e14,e13,e12,e11,e10,e9,e8,e7,e6,e5,e4,e3,e2,e1]
  unfold rowsBad
  simp only [List.any_cons,List.any_nil,id_eq,Bool.or_false,Bool.false_or]
  cases hs:(sub 0 q0).isNone with
  | true =>
   rw [sub_add_none hs]
   simp
  | false =>
   simp only [Bool.false_or]
   ac_rfl
 rw [hb]
 exact ⟨rfl,rfl,rfl,rfl,rfl,rfl,rfl,rfl,rfl,rfl⟩
theorem rvrows_law (b off:Nat) (f:Bool) (q0 q1 q2 q3:Int) (W:World) (hc:W.cell? ⟨b,off,none⟩ = some (.bool f)) (hf:W.frozen? ⟨b,off,none⟩ = false) :
  Calls Tryz.prog 95 #[.pointer (some ⟨b,off,none⟩),.agg #[.int .i64 q0,.int .i64 q1,.int .i64 q2,.int .i64 q3]] W fun e W'=>e = .returned (.agg #[.int .i64 (cond (rowsBad q0 q1 q2 q3) 0 (rowsAt0 q0 q1 q2 q3)),.int .i64 (cond (rowsBad q0 q1 q2 q3) 0 (rowsAt1 q0 q1 q2 q3)),.int .i64 (cond (rowsBad q0 q1 q2 q3) 0 (rowsAt2 q0 q1 q2 q3)),.int .i64 (cond (rowsBad q0 q1 q2 q3) 0 (rowsAt3 q0 q1 q2 q3)),.int .i64 (cond (rowsBad q0 q1 q2 q3) 0 (rowsAt4 q0 q1 q2 q3)),.int .i64 (cond (rowsBad q0 q1 q2 q3) 0 (rowsAt5 q0 q1 q2 q3)),.int .i64 (cond (rowsBad q0 q1 q2 q3) 0 (rowsAt6 q0 q1 q2 q3)),.int .i64 (cond (rowsBad q0 q1 q2 q3) 0 (rowsAt7 q0 q1 q2 q3)),.int .i64 (cond (rowsBad q0 q1 q2 q3) 0 (rowsAt8 q0 q1 q2 q3))])/\Hid (After ⟨b,off,none⟩ (f || rowsBad q0 q1 q2 q3) W W'):=by
 have hbW:b < W.heap.size:=World.block_lt_of_cell? _ _ hc
 go_enter Tryz.func95,Tryz.ntmps95
 go_wp2_with (fail)
 refine (rvbare_any _).mono ?_
 rintro e W1 ⟨rfl,rfl⟩
 obtain ⟨U,hU⟩:∃ U,U = (((W.alloc (.cells #[.int .i64 q0,.int .i64 q1,.int .i64 q2,.int .i64 q3] 69)).alloc (.cells #[.int .i64 0,.int .i64 0,.int .i64 0,.int .i64 0,.int .i64 0,.int .i64 0,.int .i64 0,.int .i64 0,.int .i64 0] 129)).alloc (.cells #[.bool false] 33)):=⟨_,rfl⟩
 obtain ⟨pa,hpa⟩:∃ p,p = W.heap.size:=⟨_,rfl⟩
 obtain ⟨pr,hpr⟩:∃ p,p = W.heap.size + 1:=⟨_,rfl⟩
 obtain ⟨po,hpo⟩:∃ p,p = W.heap.size + 1 + 1:=⟨_,rfl⟩
 have H:Hid (Ho W U ⟨b,off,none⟩ po f false [(⟨pa,0,none⟩,.int .i64 q0),(⟨pa,1,none⟩,.int .i64 q1),(⟨pa,2,none⟩,.int .i64 q2),(⟨pa,3,none⟩,.int .i64 q3),(⟨pr,0,none⟩,.int .i64 0),(⟨pr,1,none⟩,.int .i64 0),(⟨pr,2,none⟩,.int .i64 0),(⟨pr,3,none⟩,.int .i64 0),(⟨pr,4,none⟩,.int .i64 0),(⟨pr,5,none⟩,.int .i64 0),(⟨pr,6,none⟩,.int .i64 0),(⟨pr,7,none⟩,.int .i64 0),(⟨pr,8,none⟩,.int .i64 0)]):=by
  refine ⟨by rw [hU];exact ((((Leaves.refl _ _).alloc _).alloc _).alloc _),by rw [hU,World.cell?_alloc_past _ _ _ (by simp;omega),World.cell?_alloc_past _ _ _ (by simp;omega),World.cell?_alloc_past _ _ _ hbW];exact hc,by rw [hU,((new_after _ _).frozen (by simp;omega)),((new_after _ _).frozen (by simp;omega)),((new_after _ _).frozen hbW)];exact hf,by rw [hU,hpo];simp [go_sem],by rw [hU,hpo];simp [go_sem],?_,?_,hbW,by omega⟩
  ·intro c hc
   simp only [List.mem_cons,List.not_mem_nil,or_false] at hc
   rcases hc with rfl | rfl | rfl | rfl | rfl | rfl | rfl | rfl | rfl | rfl | rfl | rfl | rfl <;> rw [hU] <;> dsimp only <;> first | (rw [hpa];exact ⟨by simp [go_sem],by simp [go_sem]⟩) | (rw [hpr];exact ⟨by simp [go_sem],by simp [go_sem]⟩)
  ·intro c hc
   simp only [List.mem_cons,List.not_mem_nil,or_false] at hc
   rcases hc with rfl | rfl | rfl | rfl | rfl | rfl | rfl | rfl | rfl | rfl | rfl | rfl | rfl <;> (dsimp only) <;> omega
 rw [<- hU]
 simp only [World.size_alloc]
 rw [<- hpo,<- hpr,<- hpa]
 have zq1:pa < pr:=by omega
 have zq2:pr < po:=by omega
 have zq0:W.heap.size <= pa:=by omega
 clear hU hc hf hpa hpr hpo
 obtain ⟨K,hK⟩:∃ K:List (Addr × Value),K = [(⟨pa,0,none⟩,.int .i64 q0),(⟨pa,1,none⟩,.int .i64 q1),(⟨pa,2,none⟩,.int .i64 q2),(⟨pa,3,none⟩,.int .i64 q3),(⟨pr,0,none⟩,.int .i64 0),(⟨pr,1,none⟩,.int .i64 0),(⟨pr,2,none⟩,.int .i64 0),(⟨pr,3,none⟩,.int .i64 0),(⟨pr,4,none⟩,.int .i64 0),(⟨pr,5,none⟩,.int .i64 0),(⟨pr,6,none⟩,.int .i64 0),(⟨pr,7,none⟩,.int .i64 0),(⟨pr,8,none⟩,.int .i64 0)]:=⟨_,rfl⟩
 rw [<- hK] at H
 have KA:Hid (∀ (V:World) (g:Bool) (l:List (Addr × Value)),Ho W V ⟨b,off,none⟩ po f g (l ++ K)->V.cell? ⟨pa,0,none⟩ = some (.int .i64 q0)/\V.cell? ⟨pa,1,none⟩ = some (.int .i64 q1)/\V.cell? ⟨pa,2,none⟩ = some (.int .i64 q2)/\V.cell? ⟨pa,3,none⟩ = some (.int .i64 q3)/\pa < V.heap.size/\V.cell? ⟨po,0,none⟩ = some (.bool g)/\V.frozen? ⟨po,0,none⟩ = false):=fun V g l h=>by
  have m0:=(h.fix (⟨pa,0,none⟩,.int .i64 q0) (by rw [hK];simp)).1
  exact ⟨m0,(h.fix (⟨pa,1,none⟩,.int .i64 q1) (by rw [hK];simp)).1,(h.fix (⟨pa,2,none⟩,.int .i64 q2) (by rw [hK];simp)).1,(h.fix (⟨pa,3,none⟩,.int .i64 q3) (by rw [hK];simp)).1,World.block_lt_of_cell? _ _ m0,h.own,h.ownf⟩
 have KR:Hid (∀ (V:World) (g:Bool) (l:List (Addr × Value)),Ho W V ⟨b,off,none⟩ po f g (l ++ K)->∀ i,i < 9->V.cell? ⟨pr,i,none⟩ = some (.int .i64 0)/\V.frozen? ⟨pr,i,none⟩ = false):=fun V g l h i hi=>h.fix (⟨pr,i,none⟩,.int .i64 0) (by
  rw [hK]
  have:i = 0 \/ i = 1 \/ i = 2 \/ i = 3 \/ i = 4 \/ i = 5 \/ i = 6 \/ i = 7 \/ i = 8:=by omega
  rcases this with rfl | rfl | rfl | rfl | rfl | rfl | rfl | rfl | rfl <;> simp)
 have KN:Hid (∀ c ∈ K,c.1.block = pa \/ c.1.block = pr):=fun c hc=>by
  rw [hK] at hc
  simp only [List.mem_cons,List.not_mem_nil,or_false] at hc
  rcases hc with rfl | rfl | rfl | rfl | rfl | rfl | rfl | rfl | rfl | rfl | rfl | rfl | rfl <;> simp
 clear hK
 obtain ⟨k_pa_0,k_pa_1,k_pa_2,k_pa_3,l_pa,ho,hof⟩:=KA.out _ _ [] H.out
 go_wp2_with (fail)
 refine (radd_law po 0 false q0 q0 _ ho hof).mono ?_
 rintro e Wg1 ⟨t0,g1,rfl,Sg1,A⟩
 have H:Hid _:=H.out.after A.out
 clear A k_pa_0 k_pa_1 k_pa_2 k_pa_3 l_pa ho hof
 obtain ⟨k_pa_0,k_pa_1,k_pa_2,k_pa_3,l_pa,ho,hof⟩:=KA.out _ _ [] H.out
 go_wp2_with (fail)
 refine (radd_law po 0 g1 q1 q1 _ ho hof).mono ?_
 rintro e Wg2 ⟨t1,g2,rfl,Sg2,A⟩
 have H:Hid _:=H.out.after A.out
 clear A k_pa_0 k_pa_1 k_pa_2 k_pa_3 l_pa ho hof
 obtain ⟨k_pa_0,k_pa_1,k_pa_2,k_pa_3,l_pa,ho,hof⟩:=KA.out _ _ [] H.out
 go_wp2_with (fail)
 refine (radd_law po 0 g2 q2 q2 _ ho hof).mono ?_
 rintro e Wg3 ⟨t2,g3,rfl,Sg3,A⟩
 have H:Hid _:=H.out.after A.out
 clear A k_pa_0 k_pa_1 k_pa_2 k_pa_3 l_pa ho hof
 obtain ⟨k_pa_0,k_pa_1,k_pa_2,k_pa_3,l_pa,ho,hof⟩:=KA.out _ _ [] H.out
 go_wp2_with (fail)
 refine (radd_law po 0 g3 q3 q3 _ ho hof).mono ?_
 rintro e Wg4 ⟨t3,g4,rfl,Sg4,A⟩
 have H:Hid _:=H.out.after A.out
 clear A k_pa_0 k_pa_1 k_pa_2 k_pa_3 l_pa ho hof
 obtain ⟨k_pa_0,k_pa_1,k_pa_2,k_pa_3,l_pa,ho,hof⟩:=KA.out _ _ [] H.out
 go_wp2_with (fail)
 refine (rsub_law po 0 g4 0 q1 _ ho hof).mono ?_
 rintro e Wg5 ⟨n1,g5,rfl,Sg5,A⟩
 have H:Hid _:=H.out.after A.out
 clear A k_pa_0 k_pa_1 k_pa_2 k_pa_3 l_pa ho hof
 obtain ⟨k_pa_0,k_pa_1,k_pa_2,k_pa_3,l_pa,ho,hof⟩:=KA.out _ _ [] H.out
 go_wp2_with (fail)
 refine (rsub_law po 0 g5 0 q2 _ ho hof).mono ?_
 rintro e Wg6 ⟨n2,g6,rfl,Sg6,A⟩
 have H:Hid _:=H.out.after A.out
 clear A k_pa_0 k_pa_1 k_pa_2 k_pa_3 l_pa ho hof
 obtain ⟨k_pa_0,k_pa_1,k_pa_2,k_pa_3,l_pa,ho,hof⟩:=KA.out _ _ [] H.out
 go_wp2_with (fail)
 refine (rsub_law po 0 g6 0 q3 _ ho hof).mono ?_
 rintro e Wg7 ⟨n3,g7,rfl,Sg7,A⟩
 have H:Hid _:=H.out.after A.out
 clear A k_pa_0 k_pa_1 k_pa_2 k_pa_3 l_pa ho hof
 go_upto_region 10 with fail
 obtain ⟨pm,hpm⟩:∃ p,p = Wg7.heap.size:=⟨_,rfl⟩
 obtain ⟨Y0,hY0⟩:∃ X,X = Wg7.alloc (.cells #[.int .i64 0,.int .i64 0,.int .i64 0,.int .i64 0,.int .i64 0,.int .i64 0,.int .i64 0,.int .i64 0,.int .i64 0] 129):=⟨_,rfl⟩
 have H2:Hid (Ho W Y0 ⟨b,off,none⟩ po f g7 (celL pm 0 [0,0,0,0,0,0,0,0,0] ++ K)):=by
  show Ho _ _ _ _ _ _ _
  rw [hY0]
  refine H.out.lay _ _ _ (fun c hc=>?_)
  simp only [celL,List.mem_cons,List.not_mem_nil,or_false] at hc
  rcases hc with rfl | rfl | rfl | rfl | rfl | rfl | rfl | rfl | rfl
  ·exact ⟨0,by rw [hpm],rfl⟩
  ·exact ⟨1,by rw [hpm],rfl⟩
  ·exact ⟨2,by rw [hpm],rfl⟩
  ·exact ⟨3,by rw [hpm],rfl⟩
  ·exact ⟨4,by rw [hpm],rfl⟩
  ·exact ⟨5,by rw [hpm],rfl⟩
  ·exact ⟨6,by rw [hpm],rfl⟩
  ·exact ⟨7,by rw [hpm],rfl⟩
  ·exact ⟨8,by rw [hpm],rfl⟩
 have zm1:po < pm:=by rw [hpm];exact World.block_lt_of_cell? _ _ H.out.own
 rw [<- hY0,<- hpm]
 have H:Hid _:=H2.out
 have KM:Hid (∀ c ∈ K,c.1.block ≠ pm):=fun c hc=>by rcases KN.out c hc with e | e <;> rw [e] <;> omega
 have hbp:b < pa:=by omega
 have hwm:W.heap.size <= pm:=by omega
 have hmo:pm ≠ po:=by omega
 have hmb:pm ≠ b:=by omega
 clear hY0 hpm H2 KN
 obtain ⟨k_pa_0,k_pa_1,k_pa_2,k_pa_3,l_pa,ho,hof⟩:=KA.out _ _ _ H.out
 go_wp2_with (fail)
 refine Calls.mono (rd2 t2 t3 q2 q3 H.out) ?_
 rintro e Wg8 ⟨d0,g8,rfl,Sg8,H⟩
 clear k_pa_0 k_pa_1 k_pa_2 k_pa_3 l_pa ho hof
 go_wp2_with (fail)
 refine (rsub_law po 0 g8 4294967296 d0 _ H.out.own H.out.ownf).mono ?_
 rintro e Wg9 ⟨s0,g9,rfl,Sg9,A⟩
 have H:Hid _:=H.out.after A.out
 clear A
 have rk:Wg9.cell? ⟨pm,0,none⟩ = some (.int .i64 0):=(Ho.atC H.out 0 (by simp)).1
 have rkf:Wg9.frozen? ⟨pm,0,none⟩ = false:=(Ho.atC H.out 0 (by simp)).2
 go_upto_region 11 with fail
 obtain ⟨Y1,hY1⟩:∃ X,X = Wg9.setCell ⟨pm,0,none⟩ (.int .i64 s0):=⟨_,rfl⟩
 have H:Hid (Ho W Y1 ⟨b,off,none⟩ po f g9 (celL pm 0 [s0,0,0,0,0,0,0,0,0] ++ K)):=by show Ho _ _ _ _ _ _ _;rw [hY1];exact Ho.putC H.out 0 (by simp) s0 KM.out hwm hmo hmb
 rw [<- hY1]
 clear hY1 rk rkf
 obtain ⟨k_pa_0,k_pa_1,k_pa_2,k_pa_3,l_pa,ho,hof⟩:=KA.out _ _ _ H.out
 go_wp2_with (fail)
 refine Calls.mono (rd2 t1 t0 q2 n3 H.out) ?_
 rintro e Wg10 ⟨d1,g10,rfl,Sg10,H⟩
 clear k_pa_0 k_pa_1 k_pa_2 k_pa_3 l_pa ho hof
 have rk:Wg10.cell? ⟨pm,1,none⟩ = some (.int .i64 0):=(Ho.atC H.out 1 (by simp)).1
 have rkf:Wg10.frozen? ⟨pm,1,none⟩ = false:=(Ho.atC H.out 1 (by simp)).2
 go_upto_region 12 with fail
 obtain ⟨Y2,hY2⟩:∃ X,X = Wg10.setCell ⟨pm,1,none⟩ (.int .i64 d1):=⟨_,rfl⟩
 have H:Hid (Ho W Y2 ⟨b,off,none⟩ po f g10 (celL pm 0 [s0,d1,0,0,0,0,0,0,0] ++ K)):=by show Ho _ _ _ _ _ _ _;rw [hY2];exact Ho.putC H.out 1 (by simp) d1 KM.out hwm hmo hmb
 rw [<- hY2]
 clear hY2 rk rkf
 obtain ⟨k_pa_0,k_pa_1,k_pa_2,k_pa_3,l_pa,ho,hof⟩:=KA.out _ _ _ H.out
 go_wp2_with (fail)
 refine Calls.mono (rd2 t1 t0 q3 q2 H.out) ?_
 rintro e Wg11 ⟨d2,g11,rfl,Sg11,H⟩
 clear k_pa_0 k_pa_1 k_pa_2 k_pa_3 l_pa ho hof
 have rk:Wg11.cell? ⟨pm,2,none⟩ = some (.int .i64 0):=(Ho.atC H.out 2 (by simp)).1
 have rkf:Wg11.frozen? ⟨pm,2,none⟩ = false:=(Ho.atC H.out 2 (by simp)).2
 go_upto_region 13 with fail
 obtain ⟨Y3,hY3⟩:∃ X,X = Wg11.setCell ⟨pm,2,none⟩ (.int .i64 d2):=⟨_,rfl⟩
 have H:Hid (Ho W Y3 ⟨b,off,none⟩ po f g11 (celL pm 0 [s0,d1,d2,0,0,0,0,0,0] ++ K)):=by show Ho _ _ _ _ _ _ _;rw [hY3];exact Ho.putC H.out 2 (by simp) d2 KM.out hwm hmo hmb
 rw [<- hY3]
 clear hY3 rk rkf
 obtain ⟨k_pa_0,k_pa_1,k_pa_2,k_pa_3,l_pa,ho,hof⟩:=KA.out _ _ _ H.out
 go_wp2_with (fail)
 refine Calls.mono (rd2 t1 t0 q2 q3 H.out) ?_
 rintro e Wg12 ⟨d3,g12,rfl,Sg12,H⟩
 clear k_pa_0 k_pa_1 k_pa_2 k_pa_3 l_pa ho hof
 have rk:Wg12.cell? ⟨pm,3,none⟩ = some (.int .i64 0):=(Ho.atC H.out 3 (by simp)).1
 have rkf:Wg12.frozen? ⟨pm,3,none⟩ = false:=(Ho.atC H.out 3 (by simp)).2
 go_upto_region 14 with fail
 obtain ⟨Y4,hY4⟩:∃ X,X = Wg12.setCell ⟨pm,3,none⟩ (.int .i64 d3):=⟨_,rfl⟩
 have H:Hid (Ho W Y4 ⟨b,off,none⟩ po f g12 (celL pm 0 [s0,d1,d2,d3,0,0,0,0,0] ++ K)):=by show Ho _ _ _ _ _ _ _;rw [hY4];exact Ho.putC H.out 3 (by simp) d3 KM.out hwm hmo hmb
 rw [<- hY4]
 clear hY4 rk rkf
 obtain ⟨k_pa_0,k_pa_1,k_pa_2,k_pa_3,l_pa,ho,hof⟩:=KA.out _ _ _ H.out
 go_wp2_with (fail)
 refine Calls.mono (rd2 t1 t3 q1 q3 H.out) ?_
 rintro e Wg13 ⟨d4,g13,rfl,Sg13,H⟩
 clear k_pa_0 k_pa_1 k_pa_2 k_pa_3 l_pa ho hof
 go_wp2_with (fail)
 refine (rsub_law po 0 g13 4294967296 d4 _ H.out.own H.out.ownf).mono ?_
 rintro e Wg14 ⟨s4,g14,rfl,Sg14,A⟩
 have H:Hid _:=H.out.after A.out
 clear A
 have rk:Wg14.cell? ⟨pm,4,none⟩ = some (.int .i64 0):=(Ho.atC H.out 4 (by simp)).1
 have rkf:Wg14.frozen? ⟨pm,4,none⟩ = false:=(Ho.atC H.out 4 (by simp)).2
 go_upto_region 15 with fail
 obtain ⟨Y5,hY5⟩:∃ X,X = Wg14.setCell ⟨pm,4,none⟩ (.int .i64 s4):=⟨_,rfl⟩
 have H:Hid (Ho W Y5 ⟨b,off,none⟩ po f g14 (celL pm 0 [s0,d1,d2,d3,s4,0,0,0,0] ++ K)):=by show Ho _ _ _ _ _ _ _;rw [hY5];exact Ho.putC H.out 4 (by simp) s4 KM.out hwm hmo hmb
 rw [<- hY5]
 clear hY5 rk rkf
 obtain ⟨k_pa_0,k_pa_1,k_pa_2,k_pa_3,l_pa,ho,hof⟩:=KA.out _ _ _ H.out
 go_wp2_with (fail)
 refine Calls.mono (rd2 t2 t0 q3 n1 H.out) ?_
 rintro e Wg15 ⟨d5,g15,rfl,Sg15,H⟩
 clear k_pa_0 k_pa_1 k_pa_2 k_pa_3 l_pa ho hof
 have rk:Wg15.cell? ⟨pm,5,none⟩ = some (.int .i64 0):=(Ho.atC H.out 5 (by simp)).1
 have rkf:Wg15.frozen? ⟨pm,5,none⟩ = false:=(Ho.atC H.out 5 (by simp)).2
 go_upto_region 16 with fail
 obtain ⟨Y6,hY6⟩:∃ X,X = Wg15.setCell ⟨pm,5,none⟩ (.int .i64 d5):=⟨_,rfl⟩
 have H:Hid (Ho W Y6 ⟨b,off,none⟩ po f g15 (celL pm 0 [s0,d1,d2,d3,s4,d5,0,0,0] ++ K)):=by show Ho _ _ _ _ _ _ _;rw [hY6];exact Ho.putC H.out 5 (by simp) d5 KM.out hwm hmo hmb
 rw [<- hY6]
 clear hY6 rk rkf
 obtain ⟨k_pa_0,k_pa_1,k_pa_2,k_pa_3,l_pa,ho,hof⟩:=KA.out _ _ _ H.out
 go_wp2_with (fail)
 refine Calls.mono (rd2 t1 t0 q3 n2 H.out) ?_
 rintro e Wg16 ⟨d6,g16,rfl,Sg16,H⟩
 clear k_pa_0 k_pa_1 k_pa_2 k_pa_3 l_pa ho hof
 have rk:Wg16.cell? ⟨pm,6,none⟩ = some (.int .i64 0):=(Ho.atC H.out 6 (by simp)).1
 have rkf:Wg16.frozen? ⟨pm,6,none⟩ = false:=(Ho.atC H.out 6 (by simp)).2
 go_upto_region 17 with fail
 obtain ⟨Y7,hY7⟩:∃ X,X = Wg16.setCell ⟨pm,6,none⟩ (.int .i64 d6):=⟨_,rfl⟩
 have H:Hid (Ho W Y7 ⟨b,off,none⟩ po f g16 (celL pm 0 [s0,d1,d2,d3,s4,d5,d6,0,0] ++ K)):=by show Ho _ _ _ _ _ _ _;rw [hY7];exact Ho.putC H.out 6 (by simp) d6 KM.out hwm hmo hmb
 rw [<- hY7]
 clear hY7 rk rkf
 obtain ⟨k_pa_0,k_pa_1,k_pa_2,k_pa_3,l_pa,ho,hof⟩:=KA.out _ _ _ H.out
 go_wp2_with (fail)
 refine Calls.mono (rd2 t2 t0 q3 q1 H.out) ?_
 rintro e Wg17 ⟨d7,g17,rfl,Sg17,H⟩
 clear k_pa_0 k_pa_1 k_pa_2 k_pa_3 l_pa ho hof
 have rk:Wg17.cell? ⟨pm,7,none⟩ = some (.int .i64 0):=(Ho.atC H.out 7 (by simp)).1
 have rkf:Wg17.frozen? ⟨pm,7,none⟩ = false:=(Ho.atC H.out 7 (by simp)).2
 go_upto_region 18 with fail
 obtain ⟨Y8,hY8⟩:∃ X,X = Wg17.setCell ⟨pm,7,none⟩ (.int .i64 d7):=⟨_,rfl⟩
 have H:Hid (Ho W Y8 ⟨b,off,none⟩ po f g17 (celL pm 0 [s0,d1,d2,d3,s4,d5,d6,d7,0] ++ K)):=by show Ho _ _ _ _ _ _ _;rw [hY8];exact Ho.putC H.out 7 (by simp) d7 KM.out hwm hmo hmb
 rw [<- hY8]
 clear hY8 rk rkf
 obtain ⟨k_pa_0,k_pa_1,k_pa_2,k_pa_3,l_pa,ho,hof⟩:=KA.out _ _ _ H.out
 go_wp2_with (fail)
 refine Calls.mono (rd2 t1 t2 q1 q2 H.out) ?_
 rintro e Wg18 ⟨d8,g18,rfl,Sg18,H⟩
 clear k_pa_0 k_pa_1 k_pa_2 k_pa_3 l_pa ho hof
 go_wp2_with (fail)
 refine (rsub_law po 0 g18 4294967296 d8 _ H.out.own H.out.ownf).mono ?_
 rintro e Wg19 ⟨s8,g19,rfl,Sg19,A⟩
 have H:Hid _:=H.out.after A.out
 clear A
 have rk:Wg19.cell? ⟨pm,8,none⟩ = some (.int .i64 0):=(Ho.atC H.out 8 (by simp)).1
 have rkf:Wg19.frozen? ⟨pm,8,none⟩ = false:=(Ho.atC H.out 8 (by simp)).2
 go_upto_region 19 with fail
 obtain ⟨Y9,hY9⟩:∃ X,X = Wg19.setCell ⟨pm,8,none⟩ (.int .i64 s8):=⟨_,rfl⟩
 have H:Hid (Ho W Y9 ⟨b,off,none⟩ po f g19 (celL pm 0 [s0,d1,d2,d3,s4,d5,d6,d7,s8] ++ K)):=by show Ho _ _ _ _ _ _ _;rw [hY9];exact Ho.putC H.out 8 (by simp) s8 KM.out hwm hmo hmb
 rw [<- hY9]
 clear hY9 rk rkf
 go_wp2_with (fail)
 refine (done_any b off po f g19 _ H.out.flag H.out.flagf H.out.own (by omega)).mono ?_
 rintro e V9 ⟨rfl,A⟩
 have rr0:=A.out.cellOf (KR.out _ _ _ H.out 0 (by decide)).1 (by show pr ≠ b;omega)
 have rf0:=A.out.frozenOf (KR.out _ _ _ H.out 0 (by decide)).1 (KR.out _ _ _ H.out 0 (by decide)).2 (by show pr ≠ b;omega)
 have mm0:V9.cell? ⟨pm,0,none⟩ = some (.int .i64 s0):=A.out.cellOf (Ho.atC H.out 0 (by simp)).1 hmb
 have rr1:=A.out.cellOf (KR.out _ _ _ H.out 1 (by decide)).1 (by show pr ≠ b;omega)
 have rf1:=A.out.frozenOf (KR.out _ _ _ H.out 1 (by decide)).1 (KR.out _ _ _ H.out 1 (by decide)).2 (by show pr ≠ b;omega)
 have mm1:V9.cell? ⟨pm,1,none⟩ = some (.int .i64 d1):=A.out.cellOf (Ho.atC H.out 1 (by simp)).1 hmb
 have rr2:=A.out.cellOf (KR.out _ _ _ H.out 2 (by decide)).1 (by show pr ≠ b;omega)
 have rf2:=A.out.frozenOf (KR.out _ _ _ H.out 2 (by decide)).1 (KR.out _ _ _ H.out 2 (by decide)).2 (by show pr ≠ b;omega)
 have mm2:V9.cell? ⟨pm,2,none⟩ = some (.int .i64 d2):=A.out.cellOf (Ho.atC H.out 2 (by simp)).1 hmb
 have rr3:=A.out.cellOf (KR.out _ _ _ H.out 3 (by decide)).1 (by show pr ≠ b;omega)
 have rf3:=A.out.frozenOf (KR.out _ _ _ H.out 3 (by decide)).1 (KR.out _ _ _ H.out 3 (by decide)).2 (by show pr ≠ b;omega)
 have mm3:V9.cell? ⟨pm,3,none⟩ = some (.int .i64 d3):=A.out.cellOf (Ho.atC H.out 3 (by simp)).1 hmb
 have rr4:=A.out.cellOf (KR.out _ _ _ H.out 4 (by decide)).1 (by show pr ≠ b;omega)
 have rf4:=A.out.frozenOf (KR.out _ _ _ H.out 4 (by decide)).1 (KR.out _ _ _ H.out 4 (by decide)).2 (by show pr ≠ b;omega)
 have mm4:V9.cell? ⟨pm,4,none⟩ = some (.int .i64 s4):=A.out.cellOf (Ho.atC H.out 4 (by simp)).1 hmb
 have rr5:=A.out.cellOf (KR.out _ _ _ H.out 5 (by decide)).1 (by show pr ≠ b;omega)
 have rf5:=A.out.frozenOf (KR.out _ _ _ H.out 5 (by decide)).1 (KR.out _ _ _ H.out 5 (by decide)).2 (by show pr ≠ b;omega)
 have mm5:V9.cell? ⟨pm,5,none⟩ = some (.int .i64 d5):=A.out.cellOf (Ho.atC H.out 5 (by simp)).1 hmb
 have rr6:=A.out.cellOf (KR.out _ _ _ H.out 6 (by decide)).1 (by show pr ≠ b;omega)
 have rf6:=A.out.frozenOf (KR.out _ _ _ H.out 6 (by decide)).1 (KR.out _ _ _ H.out 6 (by decide)).2 (by show pr ≠ b;omega)
 have mm6:V9.cell? ⟨pm,6,none⟩ = some (.int .i64 d6):=A.out.cellOf (Ho.atC H.out 6 (by simp)).1 hmb
 have rr7:=A.out.cellOf (KR.out _ _ _ H.out 7 (by decide)).1 (by show pr ≠ b;omega)
 have rf7:=A.out.frozenOf (KR.out _ _ _ H.out 7 (by decide)).1 (KR.out _ _ _ H.out 7 (by decide)).2 (by show pr ≠ b;omega)
 have mm7:V9.cell? ⟨pm,7,none⟩ = some (.int .i64 d7):=A.out.cellOf (Ho.atC H.out 7 (by simp)).1 hmb
 have rr8:=A.out.cellOf (KR.out _ _ _ H.out 8 (by decide)).1 (by show pr ≠ b;omega)
 have rf8:=A.out.frozenOf (KR.out _ _ _ H.out 8 (by decide)).1 (KR.out _ _ _ H.out 8 (by decide)).2 (by show pr ≠ b;omega)
 have mm8:V9.cell? ⟨pm,8,none⟩ = some (.int .i64 s8):=A.out.cellOf (Ho.atC H.out 8 (by simp)).1 hmb
 have HL:Hid (Leaves ⟨b,off,none⟩ W V9):=H.out.leaves.same A.out
 have hp:=A.out.cell
 have hpf:=A.out.frozen
 have n1':b ≠ pr:=by omega
 have n2':pr ≠ b:=by omega
 have n3':pr ≠ pm:=by omega
 have n4':pm ≠ pr:=by omega
 have hWr:W.heap.size <= pr:=by omega
 have HS:Hid _:=rows_chain (f:=f) Sg1.out Sg2.out Sg3.out Sg4.out Sg5.out Sg6.out Sg7.out Sg8.out Sg9.out Sg10.out Sg11.out Sg12.out Sg13.out Sg14.out Sg15.out Sg16.out Sg17.out Sg18.out Sg19.out
 clear A H KA KR KM Sg1 Sg2 Sg3 Sg4 Sg5 Sg6 Sg7 Sg8 Sg9 Sg10 Sg11 Sg12 Sg13 Sg14 Sg15 Sg16 Sg17 Sg18 Sg19
 cases g19 with
 | true =>
  clear mm0 mm1 mm2 mm3 mm4 mm5 mm6 mm7 mm8
  go_wp2_with (fail)
  refine bodyPost_ret (by simp [results,Tryz.results95,go_sem,rr0,rr1,rr2,rr3,rr4,rr5,rr6,rr7,rr8];try rfl) rfl ?_
  obtain ⟨e0,e1,e2,e3,e4,e5,e6,e7,e8,eg⟩:=HS.out
  refine ⟨by rw [<- e0,<- e1,<- e2,<- e3,<- e4,<- e5,<- e6,<- e7,<- e8];rfl,by rw [<- eg];exact (((((((((HL.out.set hWr _).set hWr _).set hWr _).set hWr _).set hWr _).set hWr _).set hWr _).set hWr _).set hWr _).done (by simp [go_sem,hp]) (by simp [go_sem,hpf])⟩
 | false =>
  go_wp2_with (fail)
  refine bodyPost_ret (by simp [results,Tryz.results95,go_sem,rr0,rr1,rr2,rr3,rr4,rr5,rr6,rr7,rr8];try rfl) rfl ?_
  obtain ⟨e0,e1,e2,e3,e4,e5,e6,e7,e8,eg⟩:=HS.out
  refine ⟨by rw [<- e0,<- e1,<- e2,<- e3,<- e4,<- e5,<- e6,<- e7,<- e8];rfl,by rw [<- eg];exact (((((((((HL.out.set hWr _).set hWr _).set hWr _).set hWr _).set hWr _).set hWr _).set hWr _).set hWr _).set hWr _).done (by simp [go_sem,hp]) (by simp [go_sem,hpf])⟩
end
end Go.Proofs.YtablgiflakncfaaGreat
