/- The document's own functions of points. -/
import Derived.Test.YteebbpioffdncaaGreatEBBack0
import Derived.Test.YteebbpioffdncaaGreatEBBack17
import Derived.Test.YteebbpioffdncaaGreatEBBack1
import Derived.Test.YteebbpioffdncaaGreatEBBack2
import Derived.Test.YteebbpioffdncaaGreatEBBack3
import Derived.Test.YteebbpioffdncaaGreatEBBack8
set_option maxHeartbeats 4000000
set_option maxRecDepth 100000
set_option linter.unusedVariables false
namespace Go.Proofs.YteebbpioffdncaaGreat
open Go.Calls renaming mono -> JA
open Go.Region renaming binds -> JC
open Go renaming execOp -> JD
open List renaming set_cons_succ -> JF
open List renaming set_cons_zero -> JG
open List renaming setIfInBounds_toArray -> JH
open Tryz
open Go.Value renaming int -> J
open Go.IntKind renaming i64 -> Y
section
open Go.RowKit Go.Shelf
theorem Jce (p q:Pt) (w:World) (hp:p.inB 1152921504606846976 = true) (hq:q.inB 1152921504606846976 = true) :
  Calls Tryz.prog 150 #[p.v,q.v] w fun e W=>e = .returned (p.sub q).v/\Below w.heap.size w W:=by
 obtain ⟨x,y,z⟩:=p
 obtain ⟨x',y',z'⟩:=q
 rw [Pt.inB_iff] at hp hq
 unfold Pt.v Pt.sub
 dsimp only at *
 go_enter func150,ntmps150
 go_wp2
 exact bodyPost_ret (v:=.agg #[J Y (x - x'),J Y (y - y'),J Y (z - z')]) (by simp [results,results150,go_sem]) rfl ⟨rfl,(((Below.refl _ w).alloc (Nat.le_refl _) _).alloc (by simp) _).alloc (by simp;omega) _⟩
theorem Jkt (p q:Pt) (w:World) (hp:p.inB 34359738368 = true) (hq:q.inB 131072 = true) :
  Calls Tryz.prog 149 #[p.v,q.v] w fun e W=>e = .returned (J Y (p.dot q))/\Below w.heap.size w W:=by
 obtain ⟨x,y,z⟩:=p
 obtain ⟨x',y',z'⟩:=q
 rw [Pt.inB_iff] at hp hq
 unfold Pt.v Pt.dot
 dsimp only at *
 have h1:=Ja6 hp.1 hq.1 (by decide)
 have h2:=Ja6 hp.2.1 hq.2.1 (by decide)
 have h3:=Ja6 hp.2.2 hq.2.2 (by decide)
 clear hp hq
 go_enter func149,ntmps149
 go_wp2
 go_ret
 exact ⟨rfl,((Below.refl _ w).alloc (Nat.le_refl _) _).alloc (by simp) _⟩
theorem Jml (p q:Pt) (w:World) (hp:p.inB 131072 = true) (hq:q.inB 131072 = true) :
  Calls Tryz.prog 161 #[p.v,q.v] w fun e W=>e = .returned (p.cross q).v/\Below w.heap.size w W:=by
 obtain ⟨x,y,z⟩:=p
 obtain ⟨x',y',z'⟩:=q
 rw [Pt.inB_iff] at hp hq
 unfold Pt.v Pt.cross
 dsimp only at *
 have h1:=Ja6 hp.2.1 hq.2.2 (by decide)
 have h2:=Ja6 hp.2.2 hq.2.1 (by decide)
 have h3:=Ja6 hp.2.2 hq.1 (by decide)
 have h4:=Ja6 hp.1 hq.2.2 (by decide)
 have h5:=Ja6 hp.1 hq.2.1 (by decide)
 have h6:=Ja6 hp.2.1 hq.1 (by decide)
 clear hp hq
 go_enter func161,ntmps161
 go_wp2
 refine bodyPost_ret (v:=.agg #[J Y (y * z' - z * y'),J Y (z * x' - x * z'),J Y (x * y' - y * x')]) ?_ rfl ⟨rfl,(((Below.refl _ w).alloc (Nat.le_refl _) _).alloc (by simp) _).alloc (by simp;omega) _⟩
 simp [results,results161,go_sem]
theorem Jh7 (a b c:Pt) (w0:World) (ha:a.inB 65536 = true) (hb:b.inB 65536 = true) (hc:c.inB 65536 = true) :
  Calls Tryz.prog 148 #[a.v,b.v,c.v] w0 fun e W=>e = .returned ((b.sub a).cross (c.sub a)).v/\Below w0.heap.size w0 W:=by
 have L1:Hid _:=fun w'=>Jce b a w' (J6 hb (by decide)) (J6 ha (by decide))
 have L2:Hid _:=fun w'=>Jce c a w' (J6 hc (by decide)) (J6 ha (by decide))
 have L3:Hid _:=fun w'=>Jml (b.sub a) (c.sub a) w' (Jci hb ha) (Jci hc ha)
 clear ha hb hc
 obtain ⟨ax,ay,az⟩:=a
 obtain ⟨bx,by_,bz⟩:=b
 obtain ⟨cx,cy,cz⟩:=c
 unfold Pt.v Pt.sub Pt.cross at *
 dsimp only at *
 go_enter func148,ntmps148
 go_wp2_with (fail)
 obtain ⟨V,hV⟩:∃ V:World,V = ((((w0.alloc (.cells #[J Y ax,J Y ay,J Y az] 23)).alloc (.cells #[J Y bx,J Y by_,J Y bz] 23)).alloc (.cells #[J Y cx,J Y cy,J Y cz] 23)).alloc (.cells #[J Y 0,J Y 0,J Y 0] 23)):=⟨_,rfl⟩
 have hBV:Below w0.heap.size w0 V:=by rw [hV];exact (((((Below.refl _ w0).alloc (by simp;try omega) _).alloc (by simp;try omega) _).alloc (by simp;try omega) _).alloc (by simp;try omega) _)
 have V0_0:V.cell? ⟨w0.heap.size,0,none⟩ = some (J Y ax):=by rw [hV];simp [go_sem]
 have V0_1:V.cell? ⟨w0.heap.size,1,none⟩ = some (J Y ay):=by rw [hV];simp [go_sem]
 have V0_2:V.cell? ⟨w0.heap.size,2,none⟩ = some (J Y az):=by rw [hV];simp [go_sem]
 have V1_0:V.cell? ⟨w0.heap.size + 1,0,none⟩ = some (J Y bx):=by rw [hV];simp [go_sem]
 have V1_1:V.cell? ⟨w0.heap.size + 1,1,none⟩ = some (J Y by_):=by rw [hV];simp [go_sem]
 have V1_2:V.cell? ⟨w0.heap.size + 1,2,none⟩ = some (J Y bz):=by rw [hV];simp [go_sem]
 have V2_0:V.cell? ⟨w0.heap.size + 1 + 1,0,none⟩ = some (J Y cx):=by rw [hV];simp [go_sem]
 have V2_1:V.cell? ⟨w0.heap.size + 1 + 1,1,none⟩ = some (J Y cy):=by rw [hV];simp [go_sem]
 have V2_2:V.cell? ⟨w0.heap.size + 1 + 1,2,none⟩ = some (J Y cz):=by rw [hV];simp [go_sem]
 have V3_0:V.cell? ⟨w0.heap.size + 1 + 1 + 1,0,none⟩ = some (J Y 0):=by rw [hV];simp [go_sem]
 have V3_1:V.cell? ⟨w0.heap.size + 1 + 1 + 1,1,none⟩ = some (J Y 0):=by rw [hV];simp [go_sem]
 have V3_2:V.cell? ⟨w0.heap.size + 1 + 1 + 1,2,none⟩ = some (J Y 0):=by rw [hV];simp [go_sem]
 have Vf3_0:V.frozen? ⟨w0.heap.size + 1 + 1 + 1,0,none⟩ = false:=by rw [hV];simp [go_sem]
 have Vf3_1:V.frozen? ⟨w0.heap.size + 1 + 1 + 1,1,none⟩ = false:=by rw [hV];simp [go_sem]
 have Vf3_2:V.frozen? ⟨w0.heap.size + 1 + 1 + 1,2,none⟩ = false:=by rw [hV];simp [go_sem]
 rw [<- hV]
 clear hV
 refine RV.rs [.some (.agg #[J Y bx,J Y by_,J Y bz]),.some (.agg #[J Y ax,J Y ay,J Y az]),.some (.agg #[J Y (bx - ax),J Y (by_ - ay),J Y (bz - az)]),.some (.agg #[J Y cx,J Y cy,J Y cz]),.some (.agg #[J Y ax,J Y ay,J Y az]),.some (.agg #[J Y (cx - ax),J Y (cy - ay),J Y (cz - az)]),.some (.agg #[J Y ((by_ - ay) * (cz - az) - (bz - az) * (cy - ay)),J Y ((bz - az) * (cx - ax) - (bx - ax) * (cz - az)),J Y ((bx - ax) * (cy - ay) - (by_ - ay) * (cx - ax))]),none] [8,9,10,11,12,13,14,0] [(3,.pointer (some ⟨w0.heap.size,0,none⟩)),(4,.pointer (some ⟨w0.heap.size + 1,0,none⟩)),(5,.pointer (some ⟨w0.heap.size + 1 + 1,0,none⟩)),(6,.pointer (some ⟨w0.heap.size + 1 + 1 + 1,0,none⟩))] (fun γ L w9=>(L 7 = false/\Below V.heap.size V w9) \/ (L 7 = true/\∃ w,Below V.heap.size V w/\w9 = (((w.setCell ⟨w0.heap.size + 1 + 1 + 1,0,none⟩ (J Y ((by_ - ay) * (cz - az) - (bz - az) * (cy - ay)))).setCell ⟨w0.heap.size + 1 + 1 + 1,1,none⟩ (J Y ((bz - az) * (cx - ax) - (bx - ax) * (cz - az)))).setCell ⟨w0.heap.size + 1 + 1 + 1,2,none⟩ (J Y ((bx - ax) * (cy - ay) - (by_ - ay) * (cx - ax)))))) ⟨rfl,rfl,rfl,rfl,trivial⟩ ?_ ?_ ?_
 ·exact Or.inl ⟨rfl,(Below.refl _ V).drew⟩
 ·intro D WA Z hD hWA hZ T
  simp only [RV.Outs,RV.Slots,Nat.reduceAdd] at T
  iterate 2 (refine RV.cc _ (RV.pu T (fun γ v L w hl h=>by rw [RV.mn (L:=L) (i:=_) (j:=7) (by decide)];exact h) (fun γ L a w hH hl h9 k9=>⟨_,?_,rfl⟩)) ?_;· have hB9:=Jal hH.glob (RV.ny hH (RV.wt (j:=7) hWA (by kernel_rfl)) hl);have q0:=Ja hB9 V1_0;have q1:=Ja hB9 V1_1;have q2:=Ja hB9 V1_2;have q3:=Ja hB9 V0_0;have q4:=Ja hB9 V0_1;have q5:=Ja hB9 V0_2;simp [JD,go_sem,h9,q0,q1,q2,q3,q4,q5])
  refine RV.cc _ (RV.dc (fun γ L a w hH hl hA=>by have h9:=T γ L a w hH;have k9:=hA;simp [JC] at k9;have hB9:=Jal hH.glob (RV.ny hH (RV.wt (j:=7) (i:=2) hWA (by kernel_rfl)) hl);exact ⟨150,#[.agg #[J Y bx,J Y by_,J Y bz],.agg #[J Y ax,J Y ay,J Y az]],by simp [go_sem,h9,k9],JA (L1.out w) (by rintro e w2 ⟨rfl,hb⟩;exact ⟨_,rfl,rfl,fun j v _ h=>h.keep _,Or.inl ⟨by rw [RV.mn (L:=L) (i:=2) (j:=7) (by decide)];exact RV.ny hH (RV.wt (j:=7) (i:=2) hWA (by kernel_rfl)) hl,hB9.trans (hb.mono hB9.size)⟩⟩)⟩)) ?_
  iterate 2 (refine RV.cc _ (RV.pu T (fun γ v L w hl h=>by rw [RV.mn (L:=L) (i:=_) (j:=7) (by decide)];exact h) (fun γ L a w hH hl h9 k9=>⟨_,?_,rfl⟩)) ?_;· have hB9:=Jal hH.glob (RV.ny hH (RV.wt (j:=7) hWA (by kernel_rfl)) hl);have q0:=Ja hB9 V2_0;have q1:=Ja hB9 V2_1;have q2:=Ja hB9 V2_2;have q3:=Ja hB9 V0_0;have q4:=Ja hB9 V0_1;have q5:=Ja hB9 V0_2;simp [JD,go_sem,h9,q0,q1,q2,q3,q4,q5])
  refine RV.cc _ (RV.dc (fun γ L a w hH hl hA=>by have h9:=T γ L a w hH;have k9:=hA;simp [JC] at k9;have hB9:=Jal hH.glob (RV.ny hH (RV.wt (j:=7) (i:=5) hWA (by kernel_rfl)) hl);exact ⟨150,#[.agg #[J Y cx,J Y cy,J Y cz],.agg #[J Y ax,J Y ay,J Y az]],by simp [go_sem,h9,k9],JA (L2.out w) (by rintro e w2 ⟨rfl,hb⟩;exact ⟨_,rfl,rfl,fun j v _ h=>h.keep _,Or.inl ⟨by rw [RV.mn (L:=L) (i:=5) (j:=7) (by decide)];exact RV.ny hH (RV.wt (j:=7) (i:=5) hWA (by kernel_rfl)) hl,hB9.trans (hb.mono hB9.size)⟩⟩)⟩)) ?_
  refine RV.cc _ (RV.dc (fun γ L a w hH hl hA=>by have h9:=T γ L a w hH;have k9:=hA;simp [JC] at k9;have hB9:=Jal hH.glob (RV.ny hH (RV.wt (j:=7) (i:=6) hWA (by kernel_rfl)) hl);exact ⟨161,#[.agg #[J Y (bx - ax),J Y (by_ - ay),J Y (bz - az)],.agg #[J Y (cx - ax),J Y (cy - ay),J Y (cz - az)]],by simp [go_sem,h9,k9],JA (L3.out w) (by rintro e w2 ⟨rfl,hb⟩;exact ⟨_,rfl,rfl,fun j v _ h=>h.keep _,Or.inl ⟨by rw [RV.mn (L:=L) (i:=6) (j:=7) (by decide)];exact RV.ny hH (RV.wt (j:=7) (i:=6) hWA (by kernel_rfl)) hl,hB9.trans (hb.mono hB9.size)⟩⟩)⟩)) ?_
  refine RV.cc _ (RV.does_store (fun γ L a w hH hl hA=>by have h9:=T γ L a w hH;have k9:=hA;simp [JC] at k9;have hB9:=Jal hH.glob hl;have z0:=Ja hB9 V3_0;have zf0:=Jt hB9 V3_0 Vf3_0;have z1:=Ja hB9 V3_1;have zf1:=Jt hB9 V3_1 Vf3_1;have z2:=Ja hB9 V3_2;have zf2:=Jt hB9 V3_2 Vf3_2;exact ⟨(((w.setCell ⟨w0.heap.size + 1 + 1 + 1,0,none⟩ (J Y ((by_ - ay) * (cz - az) - (bz - az) * (cy - ay)))).setCell ⟨w0.heap.size + 1 + 1 + 1,1,none⟩ (J Y ((bz - az) * (cx - ax) - (bx - ax) * (cz - az)))).setCell ⟨w0.heap.size + 1 + 1 + 1,2,none⟩ (J Y ((bx - ax) * (cy - ay) - (by_ - ay) * (cx - ax)))),by simp [JD,go_sem,z0,zf0,z1,zf1,z2,zf2,h9,k9],trivial,fun j v _ h=>h.keep _,Or.inr ⟨RV.more_self,w,hB9,rfl⟩⟩)) ?_
  exact RV.AllDo.nil
 ·intro γ w5 L9 hL hI9 hG9
  obtain ⟨w8,hb8,rfl⟩:=Jk9 hG9 (hL 7 (by decide))
  clear hL hI9 hG9
  simp only [RV.putL,Act.put,JH,JG,JF]
  have q0:=Ja hb8 V3_0
  have q1:=Ja hb8 V3_1
  have q2:=Ja hb8 V3_2
  go_wp2
  refine bodyPost_ret (v:=.agg #[J Y ((by_ - ay) * (cz - az) - (bz - az) * (cy - ay)),J Y ((bz - az) * (cx - ax) - (bx - ax) * (cz - az)),J Y ((bx - ax) * (cy - ay) - (by_ - ay) * (cx - ax))]) (by simp [results,results148,go_sem,q0,q1,q2]) rfl ⟨rfl,?_⟩
  exact ((((hBV.trans (hb8.mono hBV.size)).setCell (by simp;omega) _).setCell (by simp;omega) _).setCell (by simp;omega) _)
def inP (p:Pt) (lo hi:Int):Bool:=inR p.x lo hi && (inR p.y lo hi && inR p.z lo hi)
theorem Jr6 (p:Pt) (m:Int):inP p (-m) m = p.inB m:=by rw [Bool.eq_iff_iff,Pt.inB_iff];simp [inP,inR]
theorem Jgl (p:Pt) (lo hi:Int) (w0:World) :
  Calls Tryz.prog 147 #[p.v,J Y lo,J Y hi] w0 fun e W=>e = .returned (.bool (inP p lo hi))/\Below w0.heap.size w0 W:=by
 obtain ⟨x,y,z⟩:=p
 unfold Pt.v inP
 dsimp only
 cases hx:inR x lo hi with
 | false =>
  go_enter func147,ntmps147
  go_wp2_with (fail)
  refine JA (Jan x lo hi _ false hx) ?_
  rintro e w' ⟨rfl,rfl⟩
  go_wp2_with (fail)
  go_ret
  exact ⟨rfl,Jb w0 _⟩
 | true =>
  cases hy:inR y lo hi with
  | false =>
   go_enter func147,ntmps147
   go_wp2_with (fail)
   refine JA (Jan x lo hi _ true hx) ?_
   rintro e w' ⟨rfl,rfl⟩
   go_wp2_with (fail)
   refine JA (Jan y lo hi _ false hy) ?_
   rintro e w' ⟨rfl,rfl⟩
   go_wp2_with (fail)
   go_ret
   exact ⟨rfl,Jb w0 _⟩
  | true =>
   cases hz:inR z lo hi with
   | false =>
    go_enter func147,ntmps147
    go_wp2_with (fail)
    refine JA (Jan x lo hi _ true hx) ?_
    rintro e w' ⟨rfl,rfl⟩
    go_wp2_with (fail)
    refine JA (Jan y lo hi _ true hy) ?_
    rintro e w' ⟨rfl,rfl⟩
    go_wp2_with (fail)
    refine JA (Jan z lo hi _ false hz) ?_
    rintro e w' ⟨rfl,rfl⟩
    go_wp2_with (fail)
    go_ret
    exact ⟨rfl,Jb w0 _⟩
   | true =>
    go_enter func147,ntmps147
    go_wp2_with (fail)
    refine JA (Jan x lo hi _ true hx) ?_
    rintro e w' ⟨rfl,rfl⟩
    go_wp2_with (fail)
    refine JA (Jan y lo hi _ true hy) ?_
    rintro e w' ⟨rfl,rfl⟩
    go_wp2_with (fail)
    refine JA (Jan z lo hi _ true hz) ?_
    rintro e w' ⟨rfl,rfl⟩
    go_wp2_with (fail)
    go_ret
    exact ⟨rfl,Jb w0 _⟩
end
section
open Go.RowKit Go.Shelf
theorem Jue {cs:Array Value} (h:cs.size = 3):∃ a b c,cs = #[a,b,c]:=by
 obtain ⟨l⟩:=cs
 match l,h with
 | [a,b,c],_=>exact ⟨a,b,c,rfl⟩
theorem Jpo (v:Value) (Ls:List Pt) (w0:World) (hv:Lies w0 v Ls) (h4:4 <= Ls.length) (h12:Ls.length <= 12) (hin:∀ p ∈ Ls,p.inB 65536 = true) (hne:pt Ls 0 ≠ pt Ls 1) :
  Calls Tryz.prog 125 #[v] w0 fun e W=>e = .returned (.bool (Jdr Ls))/\Below w0.heap.size w0 W:=by
 obtain ⟨o,c,rfl,hlc,hcm,hcell⟩:=hv.form
 have HC:Hid _:=hcell
 have HIN:Hid _:=hin
 obtain ⟨g,off,rfl,_,_,_⟩:=hcell 0 (by omega)
 clear hcell hv hin
 have HF:Hid _:=Jom (show 2 <= Ls.length by omega) hne
 clear hne
 obtain ⟨R,hR⟩:∃ R,Jdr Ls = R:=⟨_,rfl⟩
 rw [hR] at HF ⊢
 clear hR
 go_enter func125,ntmps125
 go_wp2_with (fail)
 go_loopg [3] Ls.length (fun gm s wr=>∃ i:Nat,s = J Y (i:Int)/\i <= Ls.length/\gm = Ls.length - i/\Hid (∀ i' k m q,i' < i->m < k->k < i'->q < Ls.length->vol (pt Ls m) (pt Ls k) (pt Ls i') (pt Ls q) = 0)/\Hid (Below w0.heap.size w0 wr))
 case atStart=>exact ⟨0,rfl,Nat.zero_le _,rfl,fun i' k m q h=>absurd h (Nat.not_lt_zero _),Below.refl _ _⟩
 case round =>
  obtain ⟨i,rfl,hi,hgm,HA,HBi⟩:=hrel
  have HG1:Hid _:=hgm
  clear hgm
  by_cases hit:i < Ls.length
  ·go_wp2_with (fail)
   go_loopg [4] i (fun gm s wr=>∃ k:Nat,s = J Y (k:Int)/\k <= i/\gm = i - k/\Hid (∀ k' m q,k' < k->m < k'->q < Ls.length->vol (pt Ls m) (pt Ls k') (pt Ls i) (pt Ls q) = 0)/\Hid (Below w0.heap.size w0 wr))
   case atStart=>exact ⟨0,rfl,Nat.zero_le _,rfl,fun k' m q h=>absurd h (Nat.not_lt_zero _),HBi⟩
   case round =>
    clear HBi
    obtain ⟨k,rfl,hk,hgm,HA2,HBk⟩:=hrel
    have HG2:Hid _:=hgm
    clear hgm
    by_cases hkt:k < i
    ·have hkl:k < Ls.length:=by omega
     go_wp2_with (fail)
     go_loopg [5] k (fun gm s wr=>∃ m:Nat,s = J Y (m:Int)/\m <= k/\gm = k - m/\Hid (∀ m' q,m' < m->q < Ls.length->vol (pt Ls m') (pt Ls k) (pt Ls i) (pt Ls q) = 0)/\Hid (Below w0.heap.size w0 wr))
     case atStart=>exact ⟨0,rfl,Nat.zero_le _,rfl,fun m' q h=>absurd h (Nat.not_lt_zero _),HBk⟩
     case round =>
      clear HBk
      obtain ⟨m,rfl,hm,hgm,HA3,HBm⟩:=hrel
      have HG3:Hid _:=hgm
      clear hgm
      by_cases hmt:m < k
      ·have hml:m < Ls.length:=by omega
       obtain ⟨g',off',e',x0,x1,x2⟩:=HC.out i hit
       simp only [Option.some.injEq,Addr.mk.injEq,and_true] at e'
       obtain ⟨rfl,rfl⟩:=e'
       obtain ⟨g',off',e',y0,y1,y2⟩:=HC.out k hkl
       simp only [Option.some.injEq,Addr.mk.injEq,and_true] at e'
       obtain ⟨rfl,rfl⟩:=e'
       obtain ⟨g',off',e',z0,z1,z2⟩:=HC.out m hml
       simp only [Option.some.injEq,Addr.mk.injEq,and_true] at e'
       obtain ⟨rfl,rfl⟩:=e'
       have x0:=Ja HBm.out x0
       have x1:=Ja HBm.out x1
       have x2:=Ja HBm.out x2
       have y0:=Ja HBm.out y0
       have y1:=Ja HBm.out y1
       have y2:=Ja HBm.out y2
       have HZ:Hid _:=And.intro z0 (And.intro z1 z2)
       have z0:=Ja HBm.out z0
       have z1:=Ja HBm.out z1
       have z2:=Ja HBm.out z2
       have hain:=HIN.out _ (Jaq hml)
       have hbin:=HIN.out _ (Jaq hkl)
       have hcin:=HIN.out _ (Jaq hit)
       have HM:Hid ((∃ q,q < Ls.length/\vol (pt Ls m) (pt Ls k) (pt Ls i) (pt Ls q) ≠ 0)->R = false):=fun ⟨q,h1,h2⟩=>by
        cases R with
        | false=>rfl
        | true=>exact absurd (HF.out.2 rfl i k m q hmt hkt hit h1) h2
       have HS3:Hid ((∀ q,q < Ls.length->vol (pt Ls m) (pt Ls k) (pt Ls i) (pt Ls q) = 0)->∀ m' q,m' < m + 1->q < Ls.length->vol (pt Ls m') (pt Ls k) (pt Ls i) (pt Ls q) = 0):=fun h m' q h1 h2=>by
        by_cases e:m' = m
        ·subst e;exact h q h2
        ·exact HA3.out m' q (by omega) h2
       generalize pt Ls i = pc at *
       generalize pt Ls k = pb at *
       generalize pt Ls m = pa at *
       have L3:Hid _:=fun w'=>Jh7 pa pb pc w' hain hbin hcin
       have hnin:=Jhj (Jci hbin hain) (Jci hcin hain)
       have HVO:Hid (∀ q,vol pa pb pc q = ((pb.sub pa).cross (pc.sub pa)).dot (q.sub pa)):=fun q=>rfl
       generalize (pb.sub pa).cross (pc.sub pa) = n at *
       unfold Pt.v at L3
       have hiz:(i:Int) < (Ls.length:Int):=by omega
       have hkz:(k:Int) < (Ls.length:Int):=by omega
       have hmz:(m:Int) < (Ls.length:Int):=by omega
       go_upto_region 10 with fail
       refine RV.rs [.some (.slice (some ⟨g,off,none⟩) Ls.length c),.some (J Y (m:Int)),.some (.pointer (some ⟨g,off + m * 3,none⟩)),.some (.agg #[J Y pa.x,J Y pa.y,J Y pa.z]),.some (.slice (some ⟨g,off,none⟩) Ls.length c),.some (J Y (k:Int)),.some (.pointer (some ⟨g,off + k * 3,none⟩)),.some (.agg #[J Y pb.x,J Y pb.y,J Y pb.z]),.some (.slice (some ⟨g,off,none⟩) Ls.length c),.some (J Y (i:Int)),.some (.pointer (some ⟨g,off + i * 3,none⟩)),.some (.agg #[J Y pc.x,J Y pc.y,J Y pc.z]),.some (.agg #[J Y n.x,J Y n.y,J Y n.z]),none,none] [25,26,27,28,29,30,31,32,33,34,35,36,37,7,0] [(0,.slice (some ⟨g,off,none⟩) Ls.length c),(3,J Y (i:Int)),(4,J Y (k:Int)),(5,J Y (m:Int))] (fun γ L w=>Below wr.heap.size wr w/\RV.Pend wr 23 13 14 #[J Y n.x,J Y n.y,J Y n.z] γ L w) ⟨rfl,rfl,rfl,rfl,trivial⟩ ?_ ?_ ?_
       ·exact ⟨(Below.refl _ wr).drew,RV.Pend.start rfl⟩
       ·intro D WA Z hD hWA hZ T
        simp only [RV.Outs,RV.Slots,Nat.reduceAdd] at T
        iterate 12 first
         | (refine RV.cc _ (RV.pu T (fun γ v L w hl h=>⟨h.1,h.2.other v (by decide) (by decide)⟩) (fun γ L a w hH hl h9 k9=>⟨_,?_,rfl⟩)) ?_;· simp [JD,go_sem,h9])
         | (refine RV.cc _ (RV.pu T (fun γ v L w hl h=>⟨h.1,h.2.other v (by decide) (by decide)⟩) (fun γ L a w hH hl h9 k9=>⟨_,?_,rfl⟩)) ?_;· simp [JC] at k9;simp [JD,go_sem,h9,k9,hmz,hkz,hiz])
         | (refine RV.cc _ (RV.pu T (fun γ v L w hl h=>⟨h.1,h.2.other v (by decide) (by decide)⟩) (fun γ L a w hH hl h9 k9=>⟨_,?_,rfl⟩)) ?_;· have v0:=Ja hH.glob.1 z0;have v1:=Ja hH.glob.1 z1;have v2:=Ja hH.glob.1 z2;simp [JC] at k9;simp [JD,go_sem,h9,k9,v0,v1,v2])
         | (refine RV.cc _ (RV.pu T (fun γ v L w hl h=>⟨h.1,h.2.other v (by decide) (by decide)⟩) (fun γ L a w hH hl h9 k9=>⟨_,?_,rfl⟩)) ?_;· have v0:=Ja hH.glob.1 y0;have v1:=Ja hH.glob.1 y1;have v2:=Ja hH.glob.1 y2;simp [JC] at k9;simp [JD,go_sem,h9,k9,v0,v1,v2])
         | (refine RV.cc _ (RV.pu T (fun γ v L w hl h=>⟨h.1,h.2.other v (by decide) (by decide)⟩) (fun γ L a w hH hl h9 k9=>⟨_,?_,rfl⟩)) ?_;· have v0:=Ja hH.glob.1 x0;have v1:=Ja hH.glob.1 x1;have v2:=Ja hH.glob.1 x2;simp [JC] at k9;simp [JD,go_sem,h9,k9,v0,v1,v2])
        refine RV.cc _ (RV.dc (fun γ L a w hH hl hA=>by have h9:=T γ L a w hH;have k9:=hA;simp [JC] at k9;exact ⟨148,#[.agg #[J Y pa.x,J Y pa.y,J Y pa.z],.agg #[J Y pb.x,J Y pb.y,J Y pb.z],.agg #[J Y pc.x,J Y pc.y,J Y pc.z]],by simp [go_sem,h9,k9],JA (L3.out w) (by rintro e w2 ⟨rfl,hb⟩;exact ⟨_,rfl,rfl,fun j v _ h=>h.keep _,hH.glob.1.trans (hb.mono hH.glob.1.size),(hH.glob.2.below hb).other _ (by decide) (by decide)⟩)⟩)) ?_
        refine RV.cc _ (RV.does_step (fun γ L a w hH hl hA=>by have h10:L 14 = false:=RV.ny hH (RV.wt (j:=14) (i:=13) hWA (by kernel_rfl)) hl;exact ⟨.pointer (some ⟨w.heap.size,0,none⟩),w.alloc (.cells #[J Y 0,J Y 0,J Y 0] 23),by simp [JD,go_sem],trivial,fun j v _ h=>h.keep _,hH.glob.1.alloc hH.glob.1.size _,RV.Pend.made _ rfl hH.glob.1.size h10 (by decide)⟩)) ?_
        refine RV.cc _ (RV.does_store (fun γ L a w hH hl hA=>by have h9:=T γ L a w hH;have k9:=hA;simp [JC] at k9;have l0:L 13 = true:=hA ⟨13,.data⟩ (by simp) rfl;have e0:=hH.slot 13 6 (by rw [<- hD];rfl) l0;obtain ⟨b,cs,hb1,hb2,hb3,hb4,_⟩:=hH.glob.2 l0;rw [hb1] at e0;obtain ⟨u0,u1,u2,rfl⟩:=Jue hb4;have z09:w.cell? ⟨b,0,none⟩ = some u0:=(by simp [World.cell?,hb3]);have z19:w.cell? ⟨b,1,none⟩ = some u1:=(by simp [World.cell?,hb3]);have z29:w.cell? ⟨b,2,none⟩ = some u2:=(by simp [World.cell?,hb3]);have zf:∀ o,w.frozen? ⟨b,o,none⟩ = false:=fun o=>(by simp [World.frozen?,hb3]);exact ⟨(((w.setCell ⟨b,0,none⟩ (J Y n.x)).setCell ⟨b,1,none⟩ (J Y n.y)).setCell ⟨b,2,none⟩ (J Y n.z)),by simp [JD,go_sem,e0,z09,z19,z29,zf,h9,k9],trivial,fun j v _ h=>h.keep _,((hH.glob.1.setCell hb2 _).setCell hb2 _).setCell hb2 _,RV.Pend.filled hb1 hb2 (by have q0:=Go.heap_setCell_same w b 0 _ _ (J Y n.x) hb3;have q1:=Go.heap_setCell_same _ b 1 _ _ (J Y n.y) q0;have q2:=Go.heap_setCell_same _ b 2 _ _ (J Y n.z) q1;simpa using q2) (by decide) _⟩)) ?_
        exact RV.AllDo.nil
       ·intro γ w5 L9 hL hI9 hG9
        obtain ⟨bn,cs,hb1,hb2,hb3,_,hb5⟩:=hG9.2 (hL 13 (by decide))
        rw [hb5 (hL 14 (by decide))] at hb3
        have hB5:=hG9.1
        clear hL hb5 hI9 hG9
        simp only [RV.putL,Act.put,JH,JG,JF,Nat.reduceAdd]
        rw [hb1]
        obtain ⟨W5,hW5⟩:∃ X:World,X = w5:=⟨_,rfl⟩
        rw [<- hW5] at hB5 hb3 ⊢
        have BN:Hid (Box3 W5 bn n):=⟨by simp [World.cell?,hb3],by simp [World.cell?,hb3],by simp [World.cell?,hb3],by simp [World.frozen?,hb3],by simp [World.frozen?,hb3],by simp [World.frozen?,hb3]⟩
        have HB5:Hid (Below w0.heap.size w0 W5):=Jf HBm.out hB5
        clear hW5 hb1 hb3 hB5 L3 x0 x1 x2 y0 y1 y2 z0 z1 z2
        go_wp2_with (fail)
        go_loopg [7] Ls.length (fun gm s wx=>∃ q:Nat,s = J Y (q:Int)/\q <= Ls.length/\gm = Ls.length - q/\Hid (∀ q',q' < q->vol pa pb pc (pt Ls q') = 0)/\Hid (Below W5.heap.size W5 wx))
        case atStart=>exact ⟨0,rfl,Nat.zero_le _,rfl,fun q' h=>absurd h (Nat.not_lt_zero _),Below.refl _ _⟩
        case round =>
         obtain ⟨q,rfl,hq,hgm,HA4,HBq⟩:=hrel
         have HG4:Hid _:=hgm
         clear hgm
         by_cases hqt:q < Ls.length
         ·obtain ⟨g',off',e',x0,x1,x2⟩:=HC.out q hqt
          simp only [Option.some.injEq,Addr.mk.injEq,and_true] at e'
          obtain ⟨rfl,rfl⟩:=e'
          have x0:=Ja (Jf HB5.out HBq.out) x0
          have x1:=Ja (Jf HB5.out HBq.out) x1
          have x2:=Ja (Jf HB5.out HBq.out) x2
          have y0:=Ja (Jf HB5.out HBq.out) HZ.out.1
          have y1:=Ja (Jf HB5.out HBq.out) HZ.out.2.1
          have y2:=Ja (Jf HB5.out HBq.out) HZ.out.2.2
          have hmin:=HIN.out _ (Jaq hqt)
          have HM2:Hid (¬ vol pa pb pc (pt Ls q) = 0->R = false):=fun h=>HM.out ⟨q,hqt,h⟩
          have HS4:Hid (vol pa pb pc (pt Ls q) = 0->∀ q',q' < q + 1->vol pa pb pc (pt Ls q') = 0):=fun h q' h1=>by
           by_cases e:q' = q
           ·subst e;exact h
           ·exact HA4.out q' (by omega)
          rw [HVO.out] at HM2 HS4
          generalize pt Ls q = mo at *
          have L1:Hid _:=fun w'=>Jce mo pa w' (J6 hmin (by decide)) (J6 hain (by decide))
          have L2:Hid _:=fun w'=>Jkt n (mo.sub pa) w' hnin (Jci hmin hain)
          unfold Pt.v at L1 L2
          obtain ⟨q0,q1,q2,_,_,_⟩:=BN.out.step HBq.out
          have hqz:(q:Int) < (Ls.length:Int):=by omega
          go_upto_region 14 with fail
          refine RV.rs [.some (.agg #[J Y n.x,J Y n.y,J Y n.z]),.some (.slice (some ⟨g,off,none⟩) Ls.length c),.some (J Y ((q:Int))),.some (.pointer (some ⟨g,off + q * 3,none⟩)),.some (.agg #[J Y mo.x,J Y mo.y,J Y mo.z]),.some (.slice (some ⟨g,off,none⟩) Ls.length c),.some (J Y ((m:Int))),.some (.pointer (some ⟨g,off + m * 3,none⟩)),.some (.agg #[J Y pa.x,J Y pa.y,J Y pa.z]),.some (.agg #[J Y ((mo.sub pa).x),J Y ((mo.sub pa).y),J Y ((mo.sub pa).z)]),.some (J Y (n.dot (mo.sub pa))),.some (.bool (n.dot (mo.sub pa) != 0))] [44,45,46,47,48,49,50,51,52,53,54,55] [(0,.slice (some ⟨g,off,none⟩) Ls.length c),(5,J Y ((m:Int))),(6,.pointer (some ⟨bn,0,none⟩)),(7,J Y ((q:Int)))] (fun γ L w9=>Below wr.heap.size wr w9) ⟨rfl,rfl,rfl,rfl,trivial⟩ ?_ ?_ ?_
          ·exact (Below.refl _ wr).drew
          ·intro D WA Z hD hWA hZ T
           simp only [RV.Outs,RV.Slots,Nat.reduceAdd] at T
           iterate 9 first
            | (refine RV.cc _ (RV.pu T (fun γ v L w hl h=>h) (fun γ L a w hH hl h9 k9=>⟨_,?_,rfl⟩)) ?_;· simp [JD,go_sem,h9])
            | (refine RV.cc _ (RV.pu T (fun γ v L w hl h=>h) (fun γ L a w hH hl h9 k9=>⟨_,?_,rfl⟩)) ?_;· simp [JC] at k9;simp [JD,go_sem,h9,k9,hqz,hmz])
            | (refine RV.cc _ (RV.pu T (fun γ v L w hl h=>h) (fun γ L a w hH hl h9 k9=>⟨_,?_,rfl⟩)) ?_;· have hB9:=hH.glob;have v0:=Ja hB9 x0;have v1:=Ja hB9 x1;have v2:=Ja hB9 x2;simp [JC] at k9;simp [JD,go_sem,h9,k9,v0,v1,v2])
            | (refine RV.cc _ (RV.pu T (fun γ v L w hl h=>h) (fun γ L a w hH hl h9 k9=>⟨_,?_,rfl⟩)) ?_;· have hB9:=hH.glob;have v0:=Ja hB9 y0;have v1:=Ja hB9 y1;have v2:=Ja hB9 y2;simp [JC] at k9;simp [JD,go_sem,h9,k9,v0,v1,v2])
            | (refine RV.cc _ (RV.pu T (fun γ v L w hl h=>h) (fun γ L a w hH hl h9 k9=>⟨_,?_,rfl⟩)) ?_;· have hB9:=hH.glob;have q0:=Ja hB9 q0;have q1:=Ja hB9 q1;have q2:=Ja hB9 q2;simp [JD,go_sem,h9,q0,q1,q2])
           refine RV.cc _ (RV.dc (fun γ L a w hH hl hA=>by have h9:=T γ L a w hH;have k9:=hA;simp [JC] at k9;have hB9:=hH.glob;exact ⟨150,#[.agg #[J Y mo.x,J Y mo.y,J Y mo.z],.agg #[J Y pa.x,J Y pa.y,J Y pa.z]],by simp [go_sem,h9,k9],JA (L1.out w) (by rintro e w2 ⟨rfl,hb⟩;exact ⟨_,rfl,rfl,fun j v _ h=>h.keep _,hB9.trans (hb.mono hB9.size)⟩)⟩)) ?_
           refine RV.cc _ (RV.dc (fun γ L a w hH hl hA=>by have h9:=T γ L a w hH;have k9:=hA;simp [JC] at k9;have hB9:=hH.glob;exact ⟨149,#[.agg #[J Y n.x,J Y n.y,J Y n.z],.agg #[J Y ((mo.sub pa).x),J Y ((mo.sub pa).y),J Y ((mo.sub pa).z)]],by simp [go_sem,h9,k9],JA (L2.out w) (by rintro e w2 ⟨rfl,hb⟩;exact ⟨_,rfl,rfl,fun j v _ h=>h.keep _,hB9.trans (hb.mono hB9.size)⟩)⟩)) ?_
           (refine RV.cc _ (RV.pu T (fun γ v L w hl h=>h) (fun γ L a w hH hl h9 k9=>⟨_,?_,rfl⟩)) ?_;· simp [JC] at k9;simp [JD,go_sem,h9,k9])
           exact RV.AllDo.nil
          ·intro γ w5 L9 hL hI9 hG9
           have hb8:=hG9
           clear hL hI9 hG9
           simp only [RV.putL,Act.put,JH,JG,JF]
           have HB7:Hid _:=Jf HBq.out hb8
           clear hb8 L1 L2 q0 q1 q2 x0 x1 x2
           generalize n.dot (mo.sub pa) = dd at *
           by_cases hd:dd = 0
           ·have HS5:Hid _:=HS4.out hd
            subst hd
            clear HM2
            go_wp2_with (fail)
            go_roundg (Ls.length - (q + 1))
            case measure=>have:=HG4.out;omega
            case rel=>exact ⟨q + 1,by go_num,by omega,rfl,HS5,HB7⟩
           ·have e:R = false:=HM2.out hd
            subst e
            have hd2:(dd != 0) = true:=bne_iff_ne.2 hd
            go_wp2_with (fail)
            go_ret
            exact ⟨rfl,Jf HB5.out HB7.out⟩
         ·have HS3:Hid _:=HS3.out (fun q' h=>HA4.out q' (by omega))
          go_wp2_with (fail)
          go_roundg (k - (m + 1))
          case measure=>have:=HG3.out;omega
          case rel=>exact ⟨m + 1,by go_num,by omega,rfl,HS3,Jf HB5.out HBq.out⟩
      ·have HS2:Hid (∀ k' m q,k' < k + 1->m < k'->q < Ls.length->vol (pt Ls m) (pt Ls k') (pt Ls i) (pt Ls q) = 0):=fun k' m' q h1 h2 h3=>by
        by_cases e:k' = k
        ·subst e;exact HA3.out m' q (by omega) h3
        ·exact HA2.out k' m' q (by omega) h2 h3
       go_wp2_with (fail)
       go_roundg (i - (k + 1))
       case measure=>have:=HG2.out;omega
       case rel=>exact ⟨k + 1,by go_num,by omega,rfl,HS2,HBm⟩
    ·have HS1:Hid (∀ i' k m q,i' < i + 1->m < k->k < i'->q < Ls.length->vol (pt Ls m) (pt Ls k) (pt Ls i') (pt Ls q) = 0):=fun i' k' m' q h1 h2 h3 h4=>by
      by_cases e:i' = i
      ·subst e;exact HA2.out k' m' q (by omega) h2 h4
      ·exact HA.out i' k' m' q (by omega) h2 h3 h4
     go_wp2_with (fail)
     go_roundg (Ls.length - (i + 1))
     case measure=>have:=HG1.out;omega
     case rel=>exact ⟨i + 1,by go_num,by omega,rfl,HS1,HBk⟩
  ·have e:R = true:=HF.out.1 (fun i' k' m' q h1 h2 h3 h4=>HA.out i' k' m' q (by omega) h1 h2 h4)
   subst e
   go_wp2_with (fail)
   go_ret
   exact ⟨rfl,HBi.out⟩
end
section
open Go.RowKit Go.Shelf
theorem Jb5 {L:List Pt} {i:Nat} (h:i < L.length):pt L i = L[i]:=by unfold pt;simp [h]
theorem Jrv {L:List Pt} (h4:4 <= L.length) (h12:L.length <= 12):Jcp L = true ↔ ∀ j,j < L.length->(pt L j).inB 65536 = true/\∀ j',j' < j->pt L j' ≠ pt L j:=by
 unfold Jcp
 rw [decide_eq_true (p:=4 <= L.length/\L.length <= 12) ⟨h4,h12⟩,Bool.true_and,Bool.and_eq_true,decide_eq_true_eq,List.all_eq_true]
 constructor
 ·rintro ⟨h1,h2⟩ j hj
  refine ⟨h1 _ (Jaq hj),fun j' hj' e=>?_⟩
  rw [Jb5 hj,Jb5 (by omega:j' < L.length)] at e
  exact (List.pairwise_iff_getElem.1 h2 j' j (by omega) hj hj') e
 ·intro h
  refine ⟨fun p hp=>?_,List.pairwise_iff_getElem.2 fun i j hi hj hij e=>?_⟩
  ·obtain ⟨i,hi,rfl⟩:=List.getElem_of_mem hp
   rw [<- Jb5 hi];exact (h i hi).1
  ·exact (h j hj).2 i hij (by rw [Jb5 hi,Jb5 hj];exact e)
theorem Jln (r:Int) (hf:Pt) (pv:Value) (Ls:List Pt) (w:World) (hv:Lies w pv Ls) :
  Calls Tryz.prog 124 #[.agg #[J Y 4,J Y r,J Y hf.x,J Y hf.y,J Y hf.z,pv]] w fun e W=>e = .returned (.bool (inR r 0 16384 && Jcp Ls))/\Below w.heap.size w W:=by
 obtain ⟨hx,hy,hz⟩:=hf
 obtain ⟨o,c,rfl,hlc,hcm,hcell⟩:=hv.form
 have HC:Hid _:=hcell
 clear hcell hv
 dsimp only
 have hB:Hid (Below w.heap.size w (w.alloc (.cells #[J Y 4,J Y r,J Y hx,J Y hy,J Y hz,.slice o Ls.length c] 37))):=Jb w _
 have B1:Hid (Cells (w.alloc (.cells #[J Y 4,J Y r,J Y hx,J Y hy,J Y hz,.slice o Ls.length c] 37)) w.heap.size [J Y 4,J Y r,J Y hx,J Y hy,J Y hz,.slice o Ls.length c]):=Cells.new w [J Y 4,J Y r,J Y hx,J Y hy,J Y hz,.slice o Ls.length c] _
 cases hb:inR r 0 16384 with
 | false =>
  go_enter func124,ntmps124
  go_wp2_with (fail)
  refine JA (Jan r 0 16384 _ false hb) ?_
  rintro e w' ⟨rfl,rfl⟩
  go_wp2_with (fail)
  go_ret
  exact ⟨rfl,hB.out⟩
 | true =>
  cases hl:inR (Ls.length:Int) 4 12 with
  | false =>
   have e:Jcp Ls = false:=by
    unfold Jcp
    rw [decide_eq_false (p:=4 <= Ls.length/\Ls.length <= 12) (by have:=of_decide_eq_false hl;omega)];rfl
   rw [e]
   clear e
   go_enter func124,ntmps124
   go_wp2_with (fail)
   refine JA (Jan r 0 16384 _ true hb) ?_
   rintro e w' ⟨rfl,rfl⟩
   go_wp2_with (fail)
   refine JA (Jan _ 4 12 _ false hl) ?_
   rintro e w' ⟨rfl,rfl⟩
   go_wp2_with (fail)
   go_ret
   exact ⟨rfl,hB.out⟩
  | true =>
   have h4:4 <= Ls.length:=by have:=of_decide_eq_true hl;omega
   have h12:Ls.length <= 12:=by have:=of_decide_eq_true hl;omega
   have HF:Hid _:=Jrv h4 h12
   generalize Jcp Ls = R at *
   obtain ⟨g,off,rfl,_,_,_⟩:=HC.out 0 (by omega)
   go_enter func124,ntmps124
   go_wp2_with (fail)
   refine JA (Jan r 0 16384 _ true hb) ?_
   rintro e w' ⟨rfl,rfl⟩
   go_wp2_with (fail)
   refine JA (Jan _ 4 12 _ true hl) ?_
   rintro e V ⟨rfl,rfl⟩
   clear hb hl
   go_wp2_with (fail)
   obtain ⟨V,hV⟩:∃ V:World,V = w.alloc (.cells #[J Y 4,J Y r,J Y hx,J Y hy,J Y hz,.slice (some ⟨g,off,none⟩) Ls.length c] 37):=⟨_,rfl⟩
   rw [<- hV] at B1 hB ⊢
   clear hV
   go_loopg [4] Ls.length (fun gm s wr=>∃ i:Nat,s = J Y (i:Int)/\i <= Ls.length/\gm = Ls.length - i/\Hid (∀ j,j < i->(pt Ls j).inB 65536 = true/\∀ j',j' < j->pt Ls j' ≠ pt Ls j)/\Hid (Below V.heap.size V wr))
   case atStart=>exact ⟨0,rfl,Nat.zero_le _,rfl,fun j h=>absurd h (Nat.not_lt_zero _),Below.refl _ _⟩
   case round =>
    obtain ⟨i,rfl,hi,hgm,HA,HBi⟩:=hrel
    have HG1:Hid _:=hgm
    clear hgm
    have s5:=(Cells.step B1.out HBi.out 5 _ rfl).1
    by_cases hit:i < Ls.length
    ·obtain ⟨g',off',e',x0,x1,x2⟩:=HC.out i hit
     simp only [Option.some.injEq,Addr.mk.injEq,and_true] at e'
     obtain ⟨rfl,rfl⟩:=e'
     have HX:Hid _:=And.intro (Ja hB.out x0) (And.intro (Ja hB.out x1) (Ja hB.out x2))
     clear x0 x1 x2
     have x0:=Ja HBi.out HX.out.1
     have x1:=Ja HBi.out HX.out.2.1
     have x2:=Ja HBi.out HX.out.2.2
     have HW:Hid _:=fun w'=>Jgl (pt Ls i) (-65536) 65536 w'
     rw [Jr6] at HW
     have HM:Hid ((pt Ls i).inB 65536 = false->R = false):=fun h=>by
      cases R with
      | false=>rfl
      | true=>have:=(HF.out.1 rfl i hit).1;rw [h] at this;cases this
     have HM2:Hid (∀ k,k < i->pt Ls k = pt Ls i->R = false):=fun k hk h=>by
      cases R with
      | false=>rfl
      | true=>exact absurd h ((HF.out.1 rfl i hit).2 k hk)
     have HS1:Hid ((pt Ls i).inB 65536 = true->(∀ j',j' < i->pt Ls j' ≠ pt Ls i)->∀ j,j < i + 1->(pt Ls j).inB 65536 = true/\∀ j',j' < j->pt Ls j' ≠ pt Ls j):=fun h1 h2 j hj=>by
      by_cases e:j = i
      ·subst e;exact ⟨h1,h2⟩
      ·exact HA.out j (by omega)
     generalize pt Ls i = pc at *
     unfold Pt.v at HW
     generalize pc.inB 65536 = t at *
     go_wp2_with (fail)
     refine JA (HW.out _) ?_
     rintro e V1 ⟨rfl,hb1⟩
     have HB1:Hid _:=Jf HBi.out hb1
     clear hb1 x0 x1 x2 s5 HW
     cases t with
     | false =>
      have e:R = false:=HM.out rfl
      subst e
      go_wp2_with (fail)
      go_ret
      exact ⟨rfl,Jf hB.out HB1.out⟩
     | true =>
      have HS2:Hid _:=HS1.out rfl
      clear HS1 HM
      go_wp2_with (fail)
      go_loopg [6] i (fun gm s wr=>∃ k:Nat,s = J Y (k:Int)/\k <= i/\gm = i - k/\Hid (∀ j',j' < k->pt Ls j' ≠ pc)/\Hid (Below V.heap.size V wr))
      case atStart=>exact ⟨0,rfl,Nat.zero_le _,rfl,fun j' h=>absurd h (Nat.not_lt_zero _),HB1⟩
      case round =>
       obtain ⟨k,rfl,hk,hgm,HA2,HBk⟩:=hrel
       have HG2:Hid _:=hgm
       clear hgm
       by_cases hkt:k < i
       ·have hkl:k < Ls.length:=by omega
        obtain ⟨g',off',e',y0,y1,y2⟩:=HC.out k hkl
        simp only [Option.some.injEq,Addr.mk.injEq,and_true] at e'
        obtain ⟨rfl,rfl⟩:=e'
        have y0:=Ja (Jf hB.out HBk.out) y0
        have y1:=Ja (Jf hB.out HBk.out) y1
        have y2:=Ja (Jf hB.out HBk.out) y2
        have x0:=Ja HBk.out HX.out.1
        have x1:=Ja HBk.out HX.out.2.1
        have x2:=Ja HBk.out HX.out.2.2
        have s5:=(Cells.step B1.out HBk.out 5 _ rfl).1
        have HEQ:Hid (pt Ls k = pc->R = false):=HM2.out k hkt
        have HNE:Hid (¬ pt Ls k = pc->∀ j',j' < k + 1->pt Ls j' ≠ pc):=fun h j' hj=>by
         by_cases e:j' = k
         ·subst e;exact h
         ·exact HA2.out j' (by omega)
        rw [Jbe] at HEQ HNE
        generalize (pt Ls k).x = lx at *
        generalize (pt Ls k).y = ly at *
        generalize (pt Ls k).z = lz at *
        by_cases ex:lx = pc.x
        ·by_cases ey:ly = pc.y
         ·by_cases ez:lz = pc.z
          ·have e:R = false:=HEQ.out ⟨ex,ey,ez⟩
           subst e ex ey ez
           go_wp2_with (fail)
           go_region
           go_wp2_with (fail)
           go_ret
           exact ⟨rfl,Jf hB.out HBk.out.drew⟩
          ·have HN:Hid _:=HNE.out (fun h=>ez h.2.2)
           have e1:(lz == pc.z) = false:=beq_eq_false_iff_ne.2 ez
           clear HEQ HNE
           go_wp2_with (fail)
           go_region
           go_wp2_with (fail)
           go_roundg (i - (k + 1))
           case measure=>have:=HG2.out;omega
           case rel=>exact ⟨k + 1,by go_num,by omega,rfl,HN,HBk.out.drew⟩
         ·have HN:Hid _:=HNE.out (fun h=>ey h.2.1)
          have e1:(ly == pc.y) = false:=beq_eq_false_iff_ne.2 ey
          clear HEQ HNE
          go_wp2_with (fail)
          go_region
          go_wp2_with (fail)
          go_roundg (i - (k + 1))
          case measure=>have:=HG2.out;omega
          case rel=>exact ⟨k + 1,by go_num,by omega,rfl,HN,HBk.out.drew⟩
        ·have HN:Hid _:=HNE.out (fun h=>ex h.1)
         have e1:(lx == pc.x) = false:=beq_eq_false_iff_ne.2 ex
         clear HEQ HNE
         go_wp2_with (fail)
         go_region
         go_wp2_with (fail)
         go_roundg (i - (k + 1))
         case measure=>have:=HG2.out;omega
         case rel=>exact ⟨k + 1,by go_num,by omega,rfl,HN,HBk.out.drew⟩
       ·have HS3:Hid _:=HS2.out (fun j' h=>HA2.out j' (by omega))
        go_wp2_with (fail)
        go_roundg (Ls.length - (i + 1))
        case measure=>have:=HG1.out;omega
        case rel=>exact ⟨i + 1,by go_num,by omega,rfl,HS3,HBk⟩
    ·have e:R = true:=HF.out.2 (fun j hj=>HA.out j (by omega))
     subst e
     go_wp2_with (fail)
     go_ret
     exact ⟨rfl,Jf hB.out HBi.out⟩
end
section
open Go.RowKit Go.Shelf
theorem Joc (s:Sh) (pv:Value) (w:World) (hv:Lies w pv s.pts) :
  Calls Tryz.prog 124 #[s.v pv] w fun e W=>e = .returned (.bool (Jbj s))/\Below w.heap.size w W:=by
 obtain ⟨k,r,⟨hx,hy,hz⟩,L⟩:=s
 have HF:Hid (Jbj ⟨k,r,⟨hx,hy,hz⟩,L⟩ = if k = 1 then inR r 1 16384 else if k = 2 then inR r 1 16384 && J8 hx else if k = 3 then inR r 0 16384 && (J8 hx && (J8 hy && J8 hz)) else if k = 4 then inR r 0 16384 && Jcp L else false):=rfl
 generalize Jbj ⟨k,r,⟨hx,hy,hz⟩,L⟩ = F at *
 have HV:Hid _:=hv
 have hB:Hid (Below w.heap.size w (w.alloc (.cells #[J Y k,J Y r,J Y hx,J Y hy,J Y hz,pv] 37))):=Jb w _
 have B1:Hid (Cells (w.alloc (.cells #[J Y k,J Y r,J Y hx,J Y hy,J Y hz,pv] 37)) w.heap.size [J Y k,J Y r,J Y hx,J Y hy,J Y hz,pv]):=Cells.new w [J Y k,J Y r,J Y hx,J Y hy,J Y hz,pv] _
 obtain ⟨o,c,rfl,hlc,hcm,_⟩:=hv.form
 dsimp only at hlc hcm hB HV ⊢
 clear hv
 unfold Sh.v
 dsimp only
 by_cases k1:k = 1
 ·subst k1
  have e:F = inR r 1 16384:=HF.out
  subst e
  generalize hb:inR r 1 16384 = t
  go_enter func124,ntmps124
  go_wp2_with (fail)
  refine JA (Jan r 1 16384 _ t hb) ?_
  rintro e w' ⟨rfl,rfl⟩
  go_wp2_with (fail)
  go_ret
  exact ⟨rfl,hB.out⟩
 by_cases k2:k = 2
 ·subst k2
  have e:F = (inR r 1 16384 && J8 hx):=HF.out
  cases hb:inR r 1 16384 with
  | false =>
   rw [hb] at e
   subst e
   go_enter func124,ntmps124
   go_wp2_with (fail)
   refine JA (Jan r 1 16384 _ false hb) ?_
   rintro e w' ⟨rfl,rfl⟩
   go_wp2_with (fail)
   go_ret
   exact ⟨rfl,hB.out⟩
  | true =>
   rw [hb] at e
   have e2:F = inR hx 1 65536:=e
   clear e
   subst e2
   generalize hh:inR hx 1 65536 = t
   go_enter func124,ntmps124
   go_wp2_with (fail)
   refine JA (Jan r 1 16384 _ true hb) ?_
   rintro e w' ⟨rfl,rfl⟩
   go_wp2_with (fail)
   refine JA (Jan hx 1 65536 _ t hh) ?_
   rintro e w' ⟨rfl,rfl⟩
   go_wp2_with (fail)
   go_ret
   exact ⟨rfl,hB.out⟩
 by_cases k3:k = 3
 ·subst k3
  have e:F = (inR r 0 16384 && inP ⟨hx,hy,hz⟩ 1 65536):=HF.out
  have HW:Hid _:=fun w'=>Jgl ⟨hx,hy,hz⟩ 1 65536 w'
  generalize inP ⟨hx,hy,hz⟩ 1 65536 = u at *
  unfold Pt.v at HW
  dsimp only at HW
  subst e
  generalize hb:inR r 0 16384 = t
  have c2:=(B1.out 2 _ rfl).1
  have c3:=(B1.out 3 _ rfl).1
  have c4:=(B1.out 4 _ rfl).1
  go_enter func124,ntmps124
  go_wp2_with (fail)
  refine JA (HW.out _) ?_
  rintro e V ⟨rfl,hb2⟩
  have c1:=(Cells.step B1.out hb2 1 _ rfl).1
  have hB2:Hid _:=Jf hB.out hb2
  clear hb2 c2 c3 c4
  cases t with
  | false =>
   go_wp2_with (fail)
   refine JA (Jan r 0 16384 _ false hb) ?_
   rintro e w' ⟨rfl,rfl⟩
   go_wp2_with (fail)
   go_ret
   exact ⟨rfl,hB2.out⟩
  | true =>
   go_wp2_with (fail)
   refine JA (Jan r 0 16384 _ true hb) ?_
   rintro e w' ⟨rfl,rfl⟩
   go_wp2_with (fail)
   go_ret
   exact ⟨rfl,hB2.out⟩
 by_cases k4:k = 4
 ·subst k4
  have e:F = (inR r 0 16384 && Jcp L):=HF.out
  rw [e]
  exact Jln r ⟨hx,hy,hz⟩ _ L w HV.out
 ·have e:F = false:=by rw [HF.out,if_neg k1,if_neg k2,if_neg k3,if_neg k4]
  subst e
  go_enter func124,ntmps124
  go_wp2
  go_ret
  exact ⟨rfl,hB.out⟩
theorem Jfe (s:Sh) (pv:Value) (w:World) (hv:Lies w pv s.pts) :
  Calls Tryz.prog 79 #[s.v pv] w fun e W=>e = .returned (J Y (Jaj s))/\Below w.heap.size w W:=by
 have hB:Hid (Below w.heap.size w (w.alloc (.cells #[J Y s.kind,J Y s.radius,J Y s.half.x,J Y s.half.y,J Y s.half.z,pv] 37))):=Jb w _
 have HF:Hid _:=Joc s pv (w.alloc (.cells #[J Y s.kind,J Y s.radius,J Y s.half.x,J Y s.half.y,J Y s.half.z,pv] 37)) (hv.below hB.out)
 have HC:Hid (Jaj s = if Jbj s then (if s.kind = 4/\Jdr s.pts = true then 51 else 0) else 50):=rfl
 have HM:Hid (Jbj s = true->s.kind = 4->Jcp s.pts = true):=fun a b=>Jio a b
 generalize Jaj s = C at *
 have HV:Hid _:=hv
 obtain ⟨o,c,rfl,hlc,hcm,_⟩:=hv.form
 clear hv
 generalize Jbj s = F at *
 obtain ⟨k,r,⟨hx,hy,hz⟩,L⟩:=s
 unfold Sh.v at *
 dsimp only at *
 cases F with
 | false =>
  have e:C = 50:=HC.out
  subst e
  go_enter func79,ntmps79
  go_wp2_with (go_at_call 124;refine JA HF.out ?_;rintro e V ⟨rfl,hb⟩)
  go_ret
  exact ⟨rfl,Jf hB.out hb⟩
 | true =>
  have c0:(w.alloc (.cells #[J Y k,J Y r,J Y hx,J Y hy,J Y hz,.slice o L.length c] 37)).cell? ⟨w.heap.size,0,none⟩ = some (J Y k):=by simp
  have c5:(w.alloc (.cells #[J Y k,J Y r,J Y hx,J Y hy,J Y hz,.slice o L.length c] 37)).cell? ⟨w.heap.size,5,none⟩ = some (.slice o L.length c):=by simp
  by_cases k4:k = 4
  ·subst k4
   obtain ⟨m1,m2,m3,m4⟩:=Jev (HM.out rfl rfl)
   have m3:Hid _:=m3
   have m5:Hid (pt L 0 ≠ pt L 1):=fun e=>by
    rw [Jb5 (by omega:0 < L.length),Jb5 (by omega:1 < L.length)] at e
    exact (List.pairwise_iff_getElem.1 m4 0 1 (by omega) (by omega) (by omega)) e
   have HC:Hid (C = if Jdr L = true then 51 else 0):=by show _ = _;rw [HC.out];simp
   go_enter func79,ntmps79
   go_wp2_with (fail)
   refine JA HF.out ?_
   clear HF
   rintro e V ⟨rfl,hb⟩
   have d0:=Ja hb c0
   have d5:=Ja hb c5
   have hB2:Hid _:=Jf hB.out hb
   clear hb c0 c5
   go_wp2_with (fail)
   refine JA (Jpo _ L V (HV.out.below hB2.out) m1 m2 m3.out m5.out) ?_
   rintro e V2 ⟨rfl,hb⟩
   clear d0 d5
   generalize Jdr L = fl at *
   cases fl with
   | true =>
    have e:C = 51:=HC.out
    subst e
    go_wp2_with (fail)
    go_ret
    exact ⟨rfl,Jf hB2.out hb⟩
   | false =>
    have e:C = 0:=HC.out
    subst e
    go_wp2_with (fail)
    go_ret
    exact ⟨rfl,Jf hB2.out hb⟩
  ·have e:C = 0:=by rw [HC.out,if_pos rfl,if_neg (fun h=>k4 h.1)]
   subst e
   go_enter func79,ntmps79
   go_wp2_with (fail)
   refine JA HF.out ?_
   clear HF
   rintro e V ⟨rfl,hb⟩
   have d0:=Ja hb c0
   have hB2:Hid _:=Jf hB.out hb
   clear hb c0 c5
   go_wp2_with (fail)
   go_ret
   exact ⟨rfl,hB2.out⟩
end
section
open Fx
def sqM (m h:Int):Int:=m * (h * h / 4294967296) / 4294967296
def Jgp (m r:Int):Int:=sqM m r * 2 / 5
def Jjp (m b c:Int):Int:=(sqM m b + sqM m c) / 3
theorem Jpz {h:Int} (h0:0 <= h) (h1:h <= 137438953472):0 <= h * h/\h * h <= 18889465931478580854784/\0 <= h * h / 4294967296/\h * h / 4294967296 <= 4398046511104:=by
 have a:=Int.mul_nonneg h0 h0
 have b:=Int.mul_le_mul h1 h1 h0 (by decide)
 have:(137438953472:Int) * 137438953472 = 18889465931478580854784:=by decide
 generalize h * h = q at *
 omega
theorem Jel {m h:Int} (m0:0 <= m) (m1:m <= 1099511627776) (h0:0 <= h) (h1:h <= 137438953472):0 <= sqM m h/\sqM m h <= 1125899906842624:=by
 obtain ⟨_,_,a,b⟩:=Jpz h0 h1
 unfold sqM
 generalize h * h / 4294967296 = q at *
 have c:=Int.mul_nonneg m0 a
 have d:=Int.mul_le_mul m1 b a (by decide)
 have:(1099511627776:Int) * 4398046511104 = 4835703278458516698824704:=by decide
 generalize m * q = s at *
 omega
theorem Jbo {n:Int} (h:0 <= n) (k:n <= 4611686018427387903):great n = false:=by unfold great;simp;omega
theorem Jds {n:Int} (h:0 <= n) (k:n <= 4611686018427387903):Fx.told n = some n:=by unfold Fx.told;rw [Jbo h k];rfl
theorem Jjw {h:Int} (h0:0 <= h) (h1:h <= 137438953472):mul h h = some (h * h / 4294967296):=by
 obtain ⟨_,_,a,b⟩:=Jpz h0 h1
 unfold mul
 rw [Jbo h0 (by omega)]
 simp only [Bool.or_self,Bool.false_eq_true,if_false]
 exact Jds a (by omega)
theorem Jgu {m h:Int} (m0:0 <= m) (m1:m <= 1099511627776) (h0:0 <= h) (h1:h <= 137438953472):mul m (h * h / 4294967296) = some (sqM m h):=by
 obtain ⟨_,_,a,b⟩:=Jpz h0 h1
 obtain ⟨c,d⟩:=Jel m0 m1 h0 h1
 unfold mul
 rw [Jbo m0 (by omega),Jbo a (by omega)]
 simp only [Bool.or_self,Bool.false_eq_true,if_false]
 exact Jds (n:=sqM m h) c (by omega)
theorem Jmt {s:Int} (h0:0 <= s) (h1:s <= 1125899906842624):Ju s 2 5 = some (s * 2 / 5):=by
 unfold Ju
 rw [Jbo h0 (by omega),Jbo (n:=2) (by omega) (by omega),Jbo (n:=5) (by omega) (by omega)]
 simp only [Bool.or_self,Bool.false_eq_true,if_false]
 rw [show Fx.fl (s * 2) 5 = s * 2 / 5 by simp [Fx.fl]]
 exact Jds (by omega) (by omega)
theorem Ji9 {a b:Int} (h0:0 <= a) (h1:a <= 1125899906842624) (k0:0 <= b) (k1:b <= 1125899906842624):add a b = some (a + b):=by
 unfold add
 rw [Jbo h0 (by omega),Jbo k0 (by omega)]
 simp only [Bool.or_self,Bool.false_eq_true,if_false]
 exact Jds (by omega) (by omega)
theorem Jge {s:Int} (h0:0 <= s) (h1:s <= 2251799813685248):Ju s 1 3 = some (s / 3):=by
 unfold Ju
 rw [Jbo h0 (by omega),Jbo (n:=1) (by omega) (by omega),Jbo (n:=3) (by omega) (by omega)]
 simp only [Bool.or_self,Bool.false_eq_true,if_false]
 rw [show Fx.fl (s * 1) 3 = s / 3 by simp [Fx.fl]]
 exact Jds (by omega) (by omega)
end
section
open Go.RowKit Go.Shelf Fx
def Jbr (n a:Int):Int:=if a > n then a else n
def Jec (n a:Int):Int:=if a < n then a else n
end
section
open Go.RowKit Go.Shelf
theorem Jqb (n:Int) (w:World) (hn:-9223372036854775808 <= n/\n <= 9223372036854775807) :
  Calls Tryz.prog 78 #[J Y n,J Y 65536] w fun e w'=>e = .returned (J Y (Jbg n 131073 - 65536))/\w' = w:=by
 have HP:Hid _:=Jf1 n 131073 w hn (by decide) (by decide)
 have l:=Jbt n (n:=131073) (by decide)
 have u:=Jbs n (n:=131073) (by decide)
 generalize Jbg n 131073 = q at *
 have e1:IntKind.i64.wrap (q - 65536) = q - 65536:=by rw [IntKind.wrap_i64];omega
 clear hn l u
 go_enter func78,ntmps78
 go_wp2_with (fail)
 refine JA HP.out ?_
 rintro e w' ⟨rfl,rfl⟩
 go_wp2_with (fail)
 go_ret
 exact ⟨rfl,rfl⟩
def Jjo (L:List Pt) (n a:Pt) (k:Nat):Int:=(L.take k).foldl (fun s p=>Jec s (n.dot (p.sub a))) 0
def Jfv (L:List Pt) (n a:Pt) (k:Nat):Int:=(L.take k).foldl (fun s p=>Jbr s (n.dot (p.sub a))) 0
theorem Jo9 (L:List Pt) (n a:Pt) (k:Nat) (hk:k < L.length):Jjo L n a (k + 1) = Jec (Jjo L n a k) (n.dot ((pt L k).sub a)):=by unfold Jjo;rw [Jb2 hk,List.foldl_append];rfl
theorem Jmr (L:List Pt) (n a:Pt) (k:Nat) (hk:k < L.length):Jfv L n a (k + 1) = Jbr (Jfv L n a k) (n.dot ((pt L k).sub a)):=by unfold Jfv;rw [Jb2 hk,List.foldl_append];rfl
def Jeb (L:List Pt) (n a:Pt):Int:=if Jfv L n a L.length <= 0 then 1 else if 0 <= Jjo L n a L.length then -1 else 0
theorem Jqz (v:Value) (Ls:List Pt) (n pa:Pt) (w0:World) (hv:Lies w0 v Ls) (hl:Ls.length <= 100) (hin:∀ p ∈ Ls,p.inB 65536 = true) (hain:pa.inB 65536 = true) (hnin:n.inB 34359738368 = true) :
  Calls Tryz.prog 151 #[v,n.v,pa.v] w0 fun e W=>e = .returned (J Y (Jeb Ls n pa))/\Below w0.heap.size w0 W:=by
 obtain ⟨o,c,rfl,hlc,hcm,hcell⟩:=hv.form
 have HC:Hid _:=hcell
 have HIN:Hid _:=hin
 clear hcell hv hin
 have HS:Hid (Jeb Ls n pa = if Jfv Ls n pa Ls.length <= 0 then 1 else if 0 <= Jjo Ls n pa Ls.length then -1 else 0):=rfl
 generalize Jeb Ls n pa = R at *
 have B1:Hid (Box3 ((w0.alloc (.cells #[J Y n.x,J Y n.y,J Y n.z] 23)).alloc (.cells #[J Y pa.x,J Y pa.y,J Y pa.z] 23)) w0.heap.size n):=(Box3.new w0 n.x n.y n.z _).step (Jb _ _)
 have B2:Hid (Box3 ((w0.alloc (.cells #[J Y n.x,J Y n.y,J Y n.z] 23)).alloc (.cells #[J Y pa.x,J Y pa.y,J Y pa.z] 23)) (w0.heap.size + 1) pa):=by have:=Box3.new (w0.alloc (.cells #[J Y n.x,J Y n.y,J Y n.z] 23)) pa.x pa.y pa.z 23;rwa [World.size_alloc] at this
 have hB:Hid (Below w0.heap.size w0 ((w0.alloc (.cells #[J Y n.x,J Y n.y,J Y n.z] 23)).alloc (.cells #[J Y pa.x,J Y pa.y,J Y pa.z] 23))):=Jf (Jb w0 _) (Jb _ _)
 unfold Pt.v
 go_enter func151,ntmps151
 go_wp2_with (fail)
 obtain ⟨V,hV⟩:∃ V:World,V = (w0.alloc (.cells #[J Y n.x,J Y n.y,J Y n.z] 23)).alloc (.cells #[J Y pa.x,J Y pa.y,J Y pa.z] 23):=⟨_,rfl⟩
 obtain ⟨ba,hba⟩:∃ ba,ba = w0.heap.size + 1:=⟨_,rfl⟩
 obtain ⟨bn,hbn⟩:∃ bn,bn = w0.heap.size:=⟨_,rfl⟩
 rw [<- hV] at B1 B2 hB ⊢
 rw [<- hba] at B2 ⊢
 rw [<- hbn] at B1 ⊢
 clear hV hba hbn
 go_loopg [7,8,9] Ls.length (fun gm s7 s8 s9 wr=>∃ k:Nat,s7 = J Y (Jjo Ls n pa k)/\s8 = J Y (Jfv Ls n pa k)/\s9 = J Y (k:Int)/\k <= Ls.length/\gm = Ls.length - k/\Hid (Below V.heap.size V wr))
 case atStart=>exact ⟨0,rfl,rfl,rfl,Nat.zero_le _,rfl,Below.refl _ _⟩
 case round =>
  obtain ⟨k,rfl,rfl,rfl,hk,hgm,HB⟩:=hrel
  have HG:Hid _:=hgm
  clear hgm
  by_cases hkt:k < Ls.length
  ·obtain ⟨g,off,rfl,x0,x1,x2⟩:=HC.out k hkt
   have x0:=Ja HB.out (Ja hB.out x0)
   have x1:=Ja HB.out (Ja hB.out x1)
   have x2:=Ja HB.out (Ja hB.out x2)
   have hmin:=HIN.out _ (Jaq hkt)
   have HN1:Hid _:=Jo9 Ls n pa k hkt
   have HN2:Hid _:=Jmr Ls n pa k hkt
   generalize pt Ls k = mo at *
   generalize Jjo Ls n pa k = lo at *
   generalize Jfv Ls n pa k = hi at *
   have L1:Hid _:=fun w'=>Jce mo pa w' (J6 hmin (by decide)) (J6 hain (by decide))
   have L2:Hid _:=fun w'=>Jkt n (mo.sub pa) w' hnin (Jci hmin hain)
   unfold Pt.v at L1 L2
   obtain ⟨q0,q1,q2,_,_,_⟩:=B1.out.step HB.out
   obtain ⟨p0,p1,p2,_,_,_⟩:=B2.out.step HB.out
   have hkz:(k:Int) < (Ls.length:Int):=by omega
   unfold Jec at HN1
   unfold Jbr at HN2
   obtain ⟨nl,e1⟩:∃ v,(if n.dot (mo.sub pa) < lo then n.dot (mo.sub pa) else lo) = v:=⟨_,rfl⟩
   obtain ⟨nh,e2⟩:∃ v,(if n.dot (mo.sub pa) > hi then n.dot (mo.sub pa) else hi) = v:=⟨_,rfl⟩
   rw [e1] at HN1
   rw [e2] at HN2
   go_upto_region 6 with fail
   refine RV.rs [.some (.agg #[J Y n.x,J Y n.y,J Y n.z]),.some (.slice (some ⟨g,off,none⟩) Ls.length c),.some (J Y ((k:Int))),.some (.pointer (some ⟨g,off + k * 3,none⟩)),.some (.agg #[J Y mo.x,J Y mo.y,J Y mo.z]),.some (.agg #[J Y pa.x,J Y pa.y,J Y pa.z]),.some (.agg #[J Y ((mo.sub pa).x),J Y ((mo.sub pa).y),J Y ((mo.sub pa).z)]),.some (J Y (n.dot (mo.sub pa))),.some (J Y (n.dot (mo.sub pa)))] [18,19,20,21,22,23,24,25,11] [(0,.slice (some ⟨g,off,none⟩) Ls.length c),(4,.pointer (some ⟨bn,0,none⟩)),(5,.pointer (some ⟨ba,0,none⟩)),(9,J Y ((k:Int)))] (fun γ L w9=>Below wr.heap.size wr w9) ⟨rfl,rfl,rfl,rfl,trivial⟩ ?_ ?_ ?_
   ·exact (Below.refl _ wr).drew
   ·intro D WA Z hD hWA hZ T
    simp only [RV.Outs,RV.Slots,Nat.reduceAdd] at T
    iterate 6 first
     | (refine RV.cc _ (RV.pu T (fun γ v L w hl h=>h) (fun γ L a w hH hl h9 k9=>⟨_,?_,rfl⟩)) ?_;· simp [JD,go_sem,h9])
     | (refine RV.cc _ (RV.pu T (fun γ v L w hl h=>h) (fun γ L a w hH hl h9 k9=>⟨_,?_,rfl⟩)) ?_;· simp [JC] at k9;simp [JD,go_sem,h9,k9,hkz])
     | (refine RV.cc _ (RV.pu T (fun γ v L w hl h=>h) (fun γ L a w hH hl h9 k9=>⟨_,?_,rfl⟩)) ?_;· have hB9:=hH.glob;have v0:=Ja hB9 x0;have v1:=Ja hB9 x1;have v2:=Ja hB9 x2;simp [JC] at k9;simp [JD,go_sem,h9,k9,v0,v1,v2])
     | (refine RV.cc _ (RV.pu T (fun γ v L w hl h=>h) (fun γ L a w hH hl h9 k9=>⟨_,?_,rfl⟩)) ?_;· have hB9:=hH.glob;have q0:=Ja hB9 q0;have q1:=Ja hB9 q1;have q2:=Ja hB9 q2;have q3:=Ja hB9 p0;have q4:=Ja hB9 p1;have q5:=Ja hB9 p2;simp [JD,go_sem,h9,q0,q1,q2,q3,q4,q5])
    refine RV.cc _ (RV.dc (fun γ L a w hH hl hA=>by have h9:=T γ L a w hH;have k9:=hA;simp [JC] at k9;have hB9:=hH.glob;exact ⟨150,#[.agg #[J Y mo.x,J Y mo.y,J Y mo.z],.agg #[J Y pa.x,J Y pa.y,J Y pa.z]],by simp [go_sem,h9,k9],JA (L1.out w) (by rintro e w2 ⟨rfl,hb⟩;exact ⟨_,rfl,rfl,fun j v _ h=>h.keep _,hB9.trans (hb.mono hB9.size)⟩)⟩)) ?_
    refine RV.cc _ (RV.dc (fun γ L a w hH hl hA=>by have h9:=T γ L a w hH;have k9:=hA;simp [JC] at k9;have hB9:=hH.glob;exact ⟨149,#[.agg #[J Y n.x,J Y n.y,J Y n.z],.agg #[J Y ((mo.sub pa).x),J Y ((mo.sub pa).y),J Y ((mo.sub pa).z)]],by simp [go_sem,h9,k9],JA (L2.out w) (by rintro e w2 ⟨rfl,hb⟩;exact ⟨_,rfl,rfl,fun j v _ h=>h.keep _,hB9.trans (hb.mono hB9.size)⟩)⟩)) ?_
    (refine RV.cc _ (RV.pu T (fun γ v L w hl h=>h) (fun γ L a w hH hl h9 k9=>⟨_,?_,rfl⟩)) ?_;· simp [JC] at k9;simp [JD,go_sem,h9,k9])
    exact RV.AllDo.nil
   ·intro γ w5 L9 hL hI9 hG9
    have hb8:=hG9
    clear hL hI9 hG9
    simp only [RV.putL,Act.put,JH,JG,JF]
    have HB7:Hid _:=Jf HB.out hb8
    clear hb8 L1 L2 q0 q1 q2 p0 p1 p2 x0 x1 x2
    go_wp2_with (fail)
    go_roundg (Ls.length - (k + 1))
    case measure=>have:=HG.out;omega
    case rel=>exact ⟨k + 1,by rw [HN1.out],by rw [HN2.out],by go_num,by omega,rfl,HB7⟩
  ·have e:k = Ls.length:=by omega
   subst e
   generalize Jjo Ls n pa Ls.length = lo at *
   generalize Jfv Ls n pa Ls.length = hi at *
   by_cases h1:hi <= 0
   ·have e:R = 1:=by rw [HS.out,if_pos h1]
    subst e
    clear HS
    go_wp2_with (fail)
    go_ret
    exact ⟨rfl,Jf hB.out HB.out⟩
   ·by_cases h2:0 <= lo
    ·have e:R = -1:=by rw [HS.out,if_neg h1,if_pos h2]
     subst e
     clear HS
     go_wp2_with (fail)
     go_ret
     exact ⟨rfl,Jf hB.out HB.out⟩
    ·have e:R = 0:=by rw [HS.out,if_neg h1,if_neg h2]
     subst e
     clear HS
     go_wp2_with (fail)
     go_ret
     exact ⟨rfl,Jf hB.out HB.out⟩
end
end Go.Proofs.YteebbpioffdncaaGreat
