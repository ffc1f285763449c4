/- The reference's sums of products and norms (tumblerref01), and package fx's Jae of whatever slice. -/
import Derived.Test.YteebbpioffdncaaGreatEBBack10
import Derived.Test.YteebbpioffdncaaGreatEBBack5
import Derived.Test.YteebbpioffdncaaGreatEBBack8
set_option maxHeartbeats 4000000
set_option maxRecDepth 100000
set_option linter.unusedVariables false
namespace Go.Proofs.YteebbpioffdncaaGreat
open Go.Calls renaming mono -> JA
open Go.World renaming block_lt_of_cell? -> JB
open Go.World renaming size_alloc -> JE
open Tryz
open Go.Value renaming int -> J
open Go.IntKind renaming i64 -> Y
section
open Go.RowKit Ref Fx
theorem Jfh (zs:List Int) (a:Option Addr) (cap:Nat) (w:World) (hlen:zs.length <= 4611686018427387904) (h:Jd9 w a zs) :
  Calls Tryz.prog 111 #[.slice a zs.length cap] w fun e w'=>e = .returned (.bool (zs.any great))/\w' = w:=by
 rcases h with h | ⟨b,off,rfl,h⟩
 ·obtain rfl:zs = []:=List.length_eq_zero_iff.1 h
  exact Jm0 a cap w
 ·exact Jff zs b off cap w hlen h
theorem Jqw (a c:Option Addr) (cap cap':Nat) (w:World) :
  Calls Tryz.prog 118 #[.slice a 0 cap,.slice c 0 cap'] w fun e w'=>∃ s d,e = .returned (wv s d)/\Hid (Digs d/\sv s d = 0)/\Hid (Below w.heap.size w w'):=by
 go_enter func118,ntmps118
 go_wp2
 go_rounds 1
 try simp only [Exit.inBlock,Exit.then]
 refine bodyPost_ret (by simp [results,results118,go_sem];try rfl) rfl ?_
 exact ⟨false,fun _=>0,rfl,⟨fun j _=>by simp,by simp [sv,val]⟩,by show Below _ _ _;go_grown⟩
theorem Jkz (zs ys:List Int) (a c:Option Addr) (cap cap':Nat) (w:World) (hl:zs.length <= 8) (he:zs.length = ys.length) (hg:zs.any great = false) (hg':ys.any great = false) (ha:Jd9 w a zs) (hb:Jd9 w c ys) :
  Calls Tryz.prog 118 #[.slice a zs.length cap,.slice c ys.length cap'] w fun e w'=>∃ s d,e = .returned (wv s d)/\Hid (Digs d/\sv s d = Jad zs ys)/\Hid (Below w.heap.size w w'):=by
 by_cases h0:zs.length = 0
 ·obtain rfl:zs = []:=List.length_eq_zero_iff.1 h0
  obtain rfl:ys = []:=List.length_eq_zero_iff.1 (by omega)
  exact Jqw a c cap cap' w
 ·obtain ⟨ba,oa,rfl,hz⟩:=ha.resolve_left h0
  obtain ⟨bb,ob,rfl,hy⟩:=hb.resolve_left (by omega)
  exact Jrq zs ys ba oa bb ob cap cap' w hl he hg hg' hz hy
theorem Jto (X:Int):fl X 4294967296 = X / 4294967296:=by unfold fl;rw [if_neg (by omega)]
theorem Jb1 (b off:Nat) (f:Bool) (zs ys:List Int) (a c:Option Addr) (cap cap':Nat) (w:World) (hc:w.cell? ⟨b,off,none⟩ = some (.bool f)) (hf:w.frozen? ⟨b,off,none⟩ = false)
  (hz:zs.length <= 4611686018427387904) (hy:ys.length <= 4611686018427387904) (ha:Jd9 w a zs) (hb:Jd9 w c ys) :
  Calls Tryz.prog 138 #[.pointer (some ⟨b,off,none⟩),.slice a zs.length cap,.slice c ys.length cap'] w fun e W'=>∃ v g,e = .returned (J Y v)/\Hid (Ja7 f (dot zs ys) v g)/\Hid (After ⟨b,off,none⟩ g w W'):=by
 have HC:Hid _:=hc
 have HF:Hid _:=hf
 have C2:Hid _:=Jaz b off f 0 false w hc hf
 have C1:=Jfh zs a cap w hz ha
 have C3:=Jfh ys c cap' w hy hb
 by_cases h1:zs.length = ys.length
 ·have h1':((zs.length:Int) != (ys.length:Int)) = false:=by simp [h1]
  by_cases h8:8 < zs.length
  ·have HA:Hid _:=(by unfold dot;rw [if_neg (by omega),if_pos h8]:dot zs ys = none)
   clear C1 C3 h1 hc hf ha hb
   go_enter func138,ntmps138
   go_wp2_with (fail)
   refine JA C2.out ?_
   rintro e w2 ⟨rfl,hb2⟩
   go_wp2_with (fail)
   go_ret
   exact Ja4 HA.out.symm (Below.refl _ _) hb2 HC.out HF.out
  ·cases hg:zs.any great
   ·cases hg2:ys.any great
    ·have HA:Hid _:=(by unfold dot;rw [if_neg (by omega),if_neg h8,hg,hg2];rfl:dot zs ys = Fx.told (Jad zs ys / 4294967296))
     have HS:Hid _:=Jkz zs ys a c cap cap' w (by omega) h1 hg hg2 ha hb
     rw [hg] at C1
     rw [hg2] at C3
     have K1:Hid _:=C1
     have K3:Hid _:=C3
     clear C1 C3 h1 hc hf ha hb hg hg2 C2
     go_enter func138,ntmps138
     go_wp2_with (fail)
     refine JA K1.out ?_
     rintro e w1 ⟨rfl,hw⟩
     rw [hw];clear hw
     go_wp2_with (fail)
     refine JA K3.out ?_
     rintro e w1 ⟨rfl,hw⟩
     rw [hw];clear hw
     go_wp2_with (fail)
     refine JA HS.out ?_
     rintro e w1 ⟨s,d,rfl,S1,B1⟩
     go_wp2_with (fail)
     refine (Jhi s d 4294967296 _ S1.out.1 (by omega) (by omega) (by omega)).mono ?_
     rintro e w3 ⟨n,ok,rfl,S3,B3⟩
     have B5:Hid (Below w.heap.size w w3):=Jr B1.out B3.out
     have S5:Hid _:=Je0 S3.out
     rw [S1.out.2,Jto] at S5
     clear S1 S3 B1 B3 K1 K3 HS
     go_wp2_with (fail)
     refine (Jaz b off f n ok _ (Jh B5.out HC.out) (Ji B5.out HC.out HF.out)).mono ?_
     rintro e w6 ⟨rfl,hb2⟩
     go_wp2_with (fail)
     go_ret
     exact Ja4 (S5.out.trans HA.out.symm) B5.out hb2 HC.out HF.out
    ·have HA:Hid _:=(by unfold dot;rw [if_neg (by omega),if_neg h8,hg,hg2];rfl:dot zs ys = none)
     rw [hg] at C1
     rw [hg2] at C3
     have K1:Hid _:=C1
     have K3:Hid _:=C3
     clear C1 C3 h1 hc hf ha hb hg hg2
     go_enter func138,ntmps138
     go_wp2_with (fail)
     refine JA K1.out ?_
     rintro e w1 ⟨rfl,hw⟩
     rw [hw];clear hw
     go_wp2_with (fail)
     refine JA K3.out ?_
     rintro e w1 ⟨rfl,hw⟩
     rw [hw];clear hw
     go_wp2_with (fail)
     refine JA C2.out ?_
     rintro e w2 ⟨rfl,hb2⟩
     go_wp2_with (fail)
     go_ret
     exact Ja4 HA.out.symm (Below.refl _ _) hb2 HC.out HF.out
   ·have HA:Hid _:=(by unfold dot;rw [if_neg (by omega),if_neg h8,hg];rfl:dot zs ys = none)
    obtain ⟨g2,hg2⟩:∃ g,g = ys.any great:=⟨_,rfl⟩
    rw [hg] at C1
    rw [<- hg2] at C3
    have K1:Hid _:=C1
    have K3:Hid _:=C3
    clear C1 C3 h1 hc hf ha hb hg hg2
    go_enter func138,ntmps138
    go_wp2_with (fail)
    refine JA K1.out ?_
    rintro e w1 ⟨rfl,hw⟩
    rw [hw];clear hw
    go_wp2_with (fail)
    refine JA K3.out ?_
    rintro e w1 ⟨rfl,hw⟩
    rw [hw];clear hw
    go_wp2_with (fail)
    refine JA C2.out ?_
    rintro e w2 ⟨rfl,hb2⟩
    go_wp2_with (fail)
    go_ret
    exact Ja4 HA.out.symm (Below.refl _ _) hb2 HC.out HF.out
 ·have h1':((zs.length:Int) != (ys.length:Int)) = true:=by simp;omega
  have HA:Hid _:=(by unfold dot;rw [if_pos h1]:dot zs ys = none)
  clear C1 C3 hc hf ha hb
  go_enter func138,ntmps138
  go_wp2_with (fail)
  refine JA C2.out ?_
  rintro e w2 ⟨rfl,hb2⟩
  go_wp2_with (fail)
  go_ret
  exact Ja4 HA.out.symm (Below.refl _ _) hb2 HC.out HF.out
theorem Jip (b off:Nat) (f:Bool) (zs:List Int) (a:Option Addr) (cap:Nat) (w:World) (hc:w.cell? ⟨b,off,none⟩ = some (.bool f)) (hf:w.frozen? ⟨b,off,none⟩ = false)
  (hz:zs.length <= 4611686018427387904) (ha:Jd9 w a zs) :
  Calls Tryz.prog 73 #[.pointer (some ⟨b,off,none⟩),.slice a zs.length cap] w fun e W'=>∃ v g,e = .returned (J Y v)/\Hid (Ja7 f (Jae zs) v g)/\Hid (After ⟨b,off,none⟩ g w W'):=by
 have HC:Hid _:=hc
 have HF:Hid _:=hf
 have C2:Hid _:=Jaz b off f 0 false w hc hf
 have C1:=Jfh zs a cap w hz ha
 by_cases h8:8 < zs.length
 ·have HA:Hid _:=(by unfold Jae;rw [if_pos h8]:Jae zs = none)
  clear C1 hc hf ha
  go_enter func73,ntmps73
  go_wp2_with (fail)
  refine JA C2.out ?_
  rintro e w2 ⟨rfl,hb2⟩
  go_wp2_with (fail)
  go_ret
  exact Ja4 HA.out.symm (Below.refl _ _) hb2 HC.out HF.out
 ·cases hg:zs.any great
  ·have HA:Hid _:=(by unfold Jae;rw [if_neg h8,hg];rfl:Jae zs = Fx.told (isq (Jad zs zs).toNat))
   have HS:Hid _:=Jkz zs zs a a cap cap w (by omega) rfl hg hg ha ha
   rw [hg] at C1
   have K1:Hid _:=C1
   clear C1 hc hf ha hg C2
   go_enter func73,ntmps73
   go_wp2_with (fail)
   refine JA K1.out ?_
   rintro e w1 ⟨rfl,hw⟩
   rw [hw];clear hw
   go_wp2_with (fail)
   refine JA HS.out ?_
   rintro e w1 ⟨s,d,rfl,S1,B1⟩
   go_wp2_with (fail)
   refine (Jor s d _ S1.out.1 (by rw [S1.out.2];exact Jd0 zs)).mono ?_
   rintro e w3 ⟨n,ok,rfl,S3,B3⟩
   have B5:Hid (Below w.heap.size w w3):=Jr B1.out B3.out
   have S5:Hid _:=Je0 S3.out
   rw [S1.out.2] at S5
   clear S1 S3 B1 B3 K1 HS
   go_wp2_with (fail)
   refine (Jaz b off f n ok _ (Jh B5.out HC.out) (Ji B5.out HC.out HF.out)).mono ?_
   rintro e w6 ⟨rfl,hb2⟩
   go_wp2_with (fail)
   go_ret
   exact Ja4 (S5.out.trans HA.out.symm) B5.out hb2 HC.out HF.out
  ·have HA:Hid _:=(by unfold Jae;rw [if_neg h8,hg];rfl:Jae zs = none)
   rw [hg] at C1
   have K1:Hid _:=C1
   clear C1 hc hf ha hg
   go_enter func73,ntmps73
   go_wp2_with (fail)
   refine JA K1.out ?_
   rintro e w1 ⟨rfl,hw⟩
   rw [hw];clear hw
   go_wp2_with (fail)
   refine JA C2.out ?_
   rintro e w2 ⟨rfl,hb2⟩
   go_wp2_with (fail)
   go_ret
   exact Ja4 HA.out.symm (Below.refl _ _) hb2 HC.out HF.out
end
section
open Go.RowKit Ref Fx
theorem Joq (b off:Nat) (f:Bool) (x0 x1 x2 y0 y1 y2:Int) (W:World) (hc:W.cell? ⟨b,off,none⟩ = some (.bool f)) (hf:W.frozen? ⟨b,off,none⟩ = false) :
  Calls Tryz.prog 15 #[.pointer (some ⟨b,off,none⟩),.agg #[J Y x0,J Y x1,J Y x2],.agg #[J Y y0,J Y y1,J Y y2]] W fun e W'=>∃ v0 v1 v2 g,e = .returned (.agg #[J Y v0,J Y v1,J Y v2])/\Hid (Jc3 f (sub x0 y0) (sub x1 y1) (sub x2 y2) v0 v1 v2 g)/\Hid (After ⟨b,off,none⟩ g W W'):=by
 have hbW:b < W.heap.size:=JB _ _ hc
 go_enter func15,ntmps15
 go_wp2_with (fail)
 refine (Jcj _).mono ?_
 rintro e W1 ⟨rfl,rfl⟩
 obtain ⟨U,hU⟩:∃ U,U = ((((W.alloc (.cells #[J Y x0,J Y x1,J Y x2] 27)).alloc (.cells #[J Y y0,J Y y1,J Y y2] 27)).alloc (.cells #[J Y 0,J Y 0,J Y 0] 27)).alloc (.cells #[.bool false] 53)):=⟨_,rfl⟩
 obtain ⟨pa,hpa⟩:∃ p,p = W.heap.size:=⟨_,rfl⟩
 obtain ⟨pb,hpb⟩:∃ p,p = W.heap.size + 1:=⟨_,rfl⟩
 obtain ⟨pr,hpr⟩:∃ p,p = W.heap.size + 1 + 1:=⟨_,rfl⟩
 obtain ⟨po,hpo⟩:∃ p,p = W.heap.size + 1 + 1 + 1:=⟨_,rfl⟩
 have H:Hid (Ho W U ⟨b,off,none⟩ po f false [(⟨pa,0,none⟩,J Y x0),(⟨pa,1,none⟩,J Y x1),(⟨pa,2,none⟩,J Y x2),(⟨pb,0,none⟩,J Y y0),(⟨pb,1,none⟩,J Y y1),(⟨pb,2,none⟩,J Y y2),(⟨pr,0,none⟩,J Y 0),(⟨pr,1,none⟩,J Y 0),(⟨pr,2,none⟩,J Y 0)]):=by
  refine ⟨by rw [hU];exact (((((Leaves.refl _ _).alloc _).alloc _).alloc _).alloc _),by rw [hU,World.cell?_alloc_past _ _ _ (by simp;omega),World.cell?_alloc_past _ _ _ (by simp;omega),World.cell?_alloc_past _ _ _ (by simp;omega),World.cell?_alloc_past _ _ _ hbW];exact hc,by rw [hU,((Jg _ _).frozen (by simp;omega)),((Jg _ _).frozen (by simp;omega)),((Jg _ _).frozen (by simp;omega)),((Jg _ _).frozen hbW)];exact hf,by rw [hU,hpo];simp [go_sem],by rw [hU,hpo];simp [go_sem],?_,?_,hbW,by omega⟩
  ·intro c hc
   simp only [List.mem_cons,List.not_mem_nil,or_false] at hc
   rcases hc with rfl | rfl | rfl | rfl | rfl | rfl | rfl | rfl | rfl <;> rw [hU] <;> dsimp only <;> first | (rw [hpa];exact ⟨by simp [go_sem],by simp [go_sem]⟩) | (rw [hpb];exact ⟨by simp [go_sem],by simp [go_sem]⟩) | (rw [hpr];exact ⟨by simp [go_sem],by simp [go_sem]⟩)
  ·intro c hc
   simp only [List.mem_cons,List.not_mem_nil,or_false] at hc
   rcases hc with rfl | rfl | rfl | rfl | rfl | rfl | rfl | rfl | rfl <;> (dsimp only) <;> omega
 rw [<- hU]
 simp only [JE]
 rw [<- hpo,<- hpr,<- hpb,<- hpa]
 have q1:pa < pb:=by omega
 have q2:pb < pr:=by omega
 have q3:pr < po:=by omega
 have q0:W.heap.size <= pa:=by omega
 clear hU hc hf hpa hpb hpr hpo
 have k_pa_0:=(H.out.fix (⟨pa,0,none⟩,J Y x0) (by simp)).1
 have k_pa_1:=(H.out.fix (⟨pa,1,none⟩,J Y x1) (by simp)).1
 have k_pa_2:=(H.out.fix (⟨pa,2,none⟩,J Y x2) (by simp)).1
 have k_pb_0:=(H.out.fix (⟨pb,0,none⟩,J Y y0) (by simp)).1
 have k_pb_1:=(H.out.fix (⟨pb,1,none⟩,J Y y1) (by simp)).1
 have k_pb_2:=(H.out.fix (⟨pb,2,none⟩,J Y y2) (by simp)).1
 have l_pa:=JB _ _ k_pa_0
 dsimp only at l_pa
 have l_pb:=JB _ _ k_pb_0
 dsimp only at l_pb
 have ho:=H.out.own
 have hof:=H.out.ownf
 go_wp2_with (fail)
 refine (Jca po 0 false x0 y0 _ ho hof).mono ?_
 rintro e Wg1 ⟨v0,g1,rfl,Sg1,A⟩
 have H:Hid _:=H.out.after A.out
 clear A k_pa_0 k_pa_1 k_pa_2 k_pb_0 k_pb_1 k_pb_2 l_pa l_pb ho hof
 have k_pa_0:=(H.out.fix (⟨pa,0,none⟩,J Y x0) (by simp)).1
 have k_pa_1:=(H.out.fix (⟨pa,1,none⟩,J Y x1) (by simp)).1
 have k_pa_2:=(H.out.fix (⟨pa,2,none⟩,J Y x2) (by simp)).1
 have k_pb_0:=(H.out.fix (⟨pb,0,none⟩,J Y y0) (by simp)).1
 have k_pb_1:=(H.out.fix (⟨pb,1,none⟩,J Y y1) (by simp)).1
 have k_pb_2:=(H.out.fix (⟨pb,2,none⟩,J Y y2) (by simp)).1
 have l_pa:=JB _ _ k_pa_0
 dsimp only at l_pa
 have l_pb:=JB _ _ k_pb_0
 dsimp only at l_pb
 have ho:=H.out.own
 have hof:=H.out.ownf
 go_wp2_with (fail)
 refine (Jca po 0 g1 x1 y1 _ ho hof).mono ?_
 rintro e Wg2 ⟨v1,g2,rfl,Sg2,A⟩
 have H:Hid _:=H.out.after A.out
 clear A k_pa_0 k_pa_1 k_pa_2 k_pb_0 k_pb_1 k_pb_2 l_pa l_pb ho hof
 have k_pa_0:=(H.out.fix (⟨pa,0,none⟩,J Y x0) (by simp)).1
 have k_pa_1:=(H.out.fix (⟨pa,1,none⟩,J Y x1) (by simp)).1
 have k_pa_2:=(H.out.fix (⟨pa,2,none⟩,J Y x2) (by simp)).1
 have k_pb_0:=(H.out.fix (⟨pb,0,none⟩,J Y y0) (by simp)).1
 have k_pb_1:=(H.out.fix (⟨pb,1,none⟩,J Y y1) (by simp)).1
 have k_pb_2:=(H.out.fix (⟨pb,2,none⟩,J Y y2) (by simp)).1
 have l_pa:=JB _ _ k_pa_0
 dsimp only at l_pa
 have l_pb:=JB _ _ k_pb_0
 dsimp only at l_pb
 have ho:=H.out.own
 have hof:=H.out.ownf
 go_wp2_with (fail)
 refine (Jca po 0 g2 x2 y2 _ ho hof).mono ?_
 rintro e Wg3 ⟨v2,g3,rfl,Sg3,A⟩
 have H:Hid _:=H.out.after A.out
 clear A k_pa_0 k_pa_1 k_pa_2 k_pb_0 k_pb_1 k_pb_2 l_pa l_pb ho hof
 go_wp2_with (fail)
 refine (Jdj b off po f g3 _ H.out.flag H.out.flagf H.out.own (by omega)).mono ?_
 rintro e V9 ⟨rfl,A⟩
 have rr0:=A.out.cellOf (H.out.fix (⟨pr,0,none⟩,J Y 0) (by simp)).1 (by show pr ≠ b;omega)
 have rf0:=A.out.frozenOf (H.out.fix (⟨pr,0,none⟩,J Y 0) (by simp)).1 (H.out.fix (⟨pr,0,none⟩,J Y 0) (by simp)).2 (by show pr ≠ b;omega)
 have rr1:=A.out.cellOf (H.out.fix (⟨pr,1,none⟩,J Y 0) (by simp)).1 (by show pr ≠ b;omega)
 have rf1:=A.out.frozenOf (H.out.fix (⟨pr,1,none⟩,J Y 0) (by simp)).1 (H.out.fix (⟨pr,1,none⟩,J Y 0) (by simp)).2 (by show pr ≠ b;omega)
 have rr2:=A.out.cellOf (H.out.fix (⟨pr,2,none⟩,J Y 0) (by simp)).1 (by show pr ≠ b;omega)
 have rf2:=A.out.frozenOf (H.out.fix (⟨pr,2,none⟩,J Y 0) (by simp)).1 (H.out.fix (⟨pr,2,none⟩,J Y 0) (by simp)).2 (by show pr ≠ b;omega)
 have HL:Hid (Leaves ⟨b,off,none⟩ W V9):=H.out.leaves.same A.out
 have hp:=A.out.cell
 have hpf:=A.out.frozen
 have n1:b ≠ pr:=by omega
 have n2:pr ≠ b:=by omega
 have hWr:W.heap.size <= pr:=by omega
 have HS:Hid _:=Jgo (f:=f) Sg1.out Sg2.out Sg3.out
 clear A H
 cases g3 with
 | true =>
  go_wp2_with (fail)
  refine bodyPost_ret (by simp [results,results15,go_sem,rr0,rr1,rr2];try rfl) rfl ?_
  refine ⟨0,0,0,_,rfl,HS.out,(((HL.out.set hWr _).set hWr _).set hWr _).done ?_ ?_⟩
  ·simp [go_sem,hp]
  ·simp [go_sem,hpf]
 | false =>
  go_wp2_with (fail)
  refine bodyPost_ret (by simp [results,results15,go_sem,rr0,rr1,rr2];try rfl) rfl ?_
  refine ⟨_,_,_,_,rfl,HS.out,(((HL.out.set hWr _).set hWr _).set hWr _).done ?_ ?_⟩
  ·simp [go_sem,hp]
  ·simp [go_sem,hpf]
theorem Jhn {f g:Bool} {o:Option Int} {v:Int} (h:Ja7 false o v g):Ja7 f o v (f || g):=by
 obtain ⟨rfl,rfl⟩:=h
 exact ⟨rfl,by simp only [Bool.false_or]⟩
theorem Jf9 (b off:Nat) (f:Bool) (x0 x1 x2 y0 y1 y2:Int) (W:World) (hc:W.cell? ⟨b,off,none⟩ = some (.bool f)) (hf:W.frozen? ⟨b,off,none⟩ = false) :
  Calls Tryz.prog 139 #[.pointer (some ⟨b,off,none⟩),.agg #[J Y x0,J Y x1,J Y x2],.agg #[J Y y0,J Y y1,J Y y2]] W fun e W'=>∃ v g,e = .returned (J Y v)/\Hid (Ja7 f (dot [x0,x1,x2] [y0,y1,y2]) v g)/\Hid (After ⟨b,off,none⟩ g W W'):=by
 have hbW:b < W.heap.size:=JB _ _ hc
 go_enter func139,ntmps139
 go_wp2_with (fail)
 refine (Jcj _).mono ?_
 rintro e W1 ⟨rfl,rfl⟩
 obtain ⟨U,hU⟩:∃ U,U = (((W.alloc (.cells #[J Y x0,J Y x1,J Y x2] 27)).alloc (.cells #[J Y y0,J Y y1,J Y y2] 27)).alloc (.cells #[.bool false] 53)):=⟨_,rfl⟩
 obtain ⟨pa,hpa⟩:∃ p,p = W.heap.size:=⟨_,rfl⟩
 obtain ⟨pb,hpb⟩:∃ p,p = W.heap.size + 1:=⟨_,rfl⟩
 obtain ⟨po,hpo⟩:∃ p,p = W.heap.size + 1 + 1:=⟨_,rfl⟩
 have H:Hid (Ho W U ⟨b,off,none⟩ po f false [(⟨pa,0,none⟩,J Y x0),(⟨pa,1,none⟩,J Y x1),(⟨pa,2,none⟩,J Y x2),(⟨pb,0,none⟩,J Y y0),(⟨pb,1,none⟩,J Y y1),(⟨pb,2,none⟩,J Y y2)]):=by
  refine ⟨by rw [hU];exact ((((Leaves.refl _ _).alloc _).alloc _).alloc _),by rw [hU,World.cell?_alloc_past _ _ _ (by simp;omega),World.cell?_alloc_past _ _ _ (by simp;omega),World.cell?_alloc_past _ _ _ hbW];exact hc,by rw [hU,((Jg _ _).frozen (by simp;omega)),((Jg _ _).frozen (by simp;omega)),((Jg _ _).frozen hbW)];exact hf,by rw [hU,hpo];simp [go_sem],by rw [hU,hpo];simp [go_sem],?_,?_,hbW,by omega⟩
  ·intro c hc
   simp only [List.mem_cons,List.not_mem_nil,or_false] at hc
   rcases hc with rfl | rfl | rfl | rfl | rfl | rfl <;> rw [hU] <;> dsimp only <;> first | (rw [hpa];exact ⟨by simp [go_sem],by simp [go_sem]⟩) | (rw [hpb];exact ⟨by simp [go_sem],by simp [go_sem]⟩)
  ·intro c hc
   simp only [List.mem_cons,List.not_mem_nil,or_false] at hc
   rcases hc with rfl | rfl | rfl | rfl | rfl | rfl <;> (dsimp only) <;> omega
 rw [<- hU]
 simp only [JE]
 rw [<- hpo,<- hpb,<- hpa]
 have q1:pa < pb:=by omega
 have q2:pb < po:=by omega
 have q0:W.heap.size <= pa:=by omega
 clear hU hc hf hpa hpb hpo
 have k_pa_0:=(H.out.fix (⟨pa,0,none⟩,J Y x0) (by simp)).1
 have k_pa_1:=(H.out.fix (⟨pa,1,none⟩,J Y x1) (by simp)).1
 have k_pa_2:=(H.out.fix (⟨pa,2,none⟩,J Y x2) (by simp)).1
 have k_pb_0:=(H.out.fix (⟨pb,0,none⟩,J Y y0) (by simp)).1
 have k_pb_1:=(H.out.fix (⟨pb,1,none⟩,J Y y1) (by simp)).1
 have k_pb_2:=(H.out.fix (⟨pb,2,none⟩,J Y y2) (by simp)).1
 have l_pa:=JB _ _ k_pa_0
 dsimp only at l_pa
 have l_pb:=JB _ _ k_pb_0
 dsimp only at l_pb
 have ho:=H.out.own
 have hof:=H.out.ownf
 go_wp2_with (fail)
 refine (Jb1 po 0 false [x0,x1,x2] [y0,y1,y2] (some ⟨U.heap.size,0,none⟩) (some ⟨U.heap.size + 1,0,none⟩) 3 3 ((U.alloc (.cells #[J Y x0,J Y x1,J Y x2] 3)).alloc (.cells #[J Y y0,J Y y1,J Y y2] 3)) ((H.out.alloc (.cells #[J Y x0,J Y x1,J Y x2] 3)).alloc (.cells #[J Y y0,J Y y1,J Y y2] 3)).own ((H.out.alloc (.cells #[J Y x0,J Y x1,J Y x2] 3)).alloc (.cells #[J Y y0,J Y y1,J Y y2] 3)).ownf (by simp) (by simp) (Jp7 (by simp [go_sem]) (by simp [go_sem]) (by simp [go_sem])) (Jp7 (by simp [go_sem]) (by simp [go_sem]) (by simp [go_sem]))).mono ?_
 rintro e Wg1 ⟨v0,g1,rfl,Sg1,A⟩
 have H:Hid _:=((H.out.alloc (.cells #[J Y x0,J Y x1,J Y x2] 3)).alloc (.cells #[J Y y0,J Y y1,J Y y2] 3)).after A.out
 clear A k_pa_0 k_pa_1 k_pa_2 k_pb_0 k_pb_1 k_pb_2 l_pa l_pb ho hof
 go_wp2_with (fail)
 refine (Jdj b off po f g1 _ H.out.flag H.out.flagf H.out.own (by omega)).mono ?_
 rintro e V9 ⟨rfl,A⟩
 have HA:Hid (After ⟨b,off,none⟩ (f || g1) W V9):=(H.out.leaves.same A.out).done A.out.cell A.out.frozen
 clear A H
 go_wp2_with (fail)
 go_ret
 exact ⟨v0,_,rfl,Jhn Sg1.out,HA⟩
theorem Jpb (b off:Nat) (f:Bool) (x0 x1 x2:Int) (W:World) (hc:W.cell? ⟨b,off,none⟩ = some (.bool f)) (hf:W.frozen? ⟨b,off,none⟩ = false) :
  Calls Tryz.prog 27 #[.pointer (some ⟨b,off,none⟩),.agg #[J Y x0,J Y x1,J Y x2]] W fun e W'=>∃ v g,e = .returned (J Y v)/\Hid (Ja7 f (Jae [x0,x1,x2]) v g)/\Hid (After ⟨b,off,none⟩ g W W'):=by
 have hbW:b < W.heap.size:=JB _ _ hc
 go_enter func27,ntmps27
 go_wp2_with (fail)
 refine (Jcj _).mono ?_
 rintro e W1 ⟨rfl,rfl⟩
 obtain ⟨U,hU⟩:∃ U,U = ((W.alloc (.cells #[J Y x0,J Y x1,J Y x2] 27)).alloc (.cells #[.bool false] 53)):=⟨_,rfl⟩
 obtain ⟨pa,hpa⟩:∃ p,p = W.heap.size:=⟨_,rfl⟩
 obtain ⟨po,hpo⟩:∃ p,p = W.heap.size + 1:=⟨_,rfl⟩
 have H:Hid (Ho W U ⟨b,off,none⟩ po f false [(⟨pa,0,none⟩,J Y x0),(⟨pa,1,none⟩,J Y x1),(⟨pa,2,none⟩,J Y x2)]):=by
  refine ⟨by rw [hU];exact (((Leaves.refl _ _).alloc _).alloc _),by rw [hU,World.cell?_alloc_past _ _ _ (by simp;omega),World.cell?_alloc_past _ _ _ hbW];exact hc,by rw [hU,((Jg _ _).frozen (by simp;omega)),((Jg _ _).frozen hbW)];exact hf,by rw [hU,hpo];simp [go_sem],by rw [hU,hpo];simp [go_sem],?_,?_,hbW,by omega⟩
  ·intro c hc
   simp only [List.mem_cons,List.not_mem_nil,or_false] at hc
   rcases hc with rfl | rfl | rfl <;> rw [hU] <;> dsimp only <;> first | (rw [hpa];exact ⟨by simp [go_sem],by simp [go_sem]⟩)
  ·intro c hc
   simp only [List.mem_cons,List.not_mem_nil,or_false] at hc
   rcases hc with rfl | rfl | rfl <;> (dsimp only) <;> omega
 rw [<- hU]
 simp only [JE]
 rw [<- hpo,<- hpa]
 have q1:pa < po:=by omega
 have q0:W.heap.size <= pa:=by omega
 clear hU hc hf hpa hpo
 have k_pa_0:=(H.out.fix (⟨pa,0,none⟩,J Y x0) (by simp)).1
 have k_pa_1:=(H.out.fix (⟨pa,1,none⟩,J Y x1) (by simp)).1
 have k_pa_2:=(H.out.fix (⟨pa,2,none⟩,J Y x2) (by simp)).1
 have l_pa:=JB _ _ k_pa_0
 dsimp only at l_pa
 have ho:=H.out.own
 have hof:=H.out.ownf
 go_wp2_with (fail)
 refine (Jip po 0 false [x0,x1,x2] _ 3 _ (H.out.alloc (.cells #[J Y x0,J Y x1,J Y x2] 3)).own (H.out.alloc (.cells #[J Y x0,J Y x1,J Y x2] 3)).ownf (by simp) (Jp7 (by simp [go_sem]) (by simp [go_sem]) (by simp [go_sem]))).mono ?_
 rintro e Wg1 ⟨v0,g1,rfl,Sg1,A⟩
 have H:Hid _:=(H.out.alloc (.cells #[J Y x0,J Y x1,J Y x2] 3)).after A.out
 clear A k_pa_0 k_pa_1 k_pa_2 l_pa ho hof
 go_wp2_with (fail)
 refine (Jdj b off po f g1 _ H.out.flag H.out.flagf H.out.own (by omega)).mono ?_
 rintro e V9 ⟨rfl,A⟩
 have HA:Hid (After ⟨b,off,none⟩ (f || g1) W V9):=(H.out.leaves.same A.out).done A.out.cell A.out.frozen
 clear A H
 go_wp2_with (fail)
 go_ret
 exact ⟨v0,_,rfl,Jhn Sg1.out,HA⟩
end
section
open Go.RowKit Ref Fx
theorem Jp8 {w:World} {b:Nat} {x y z u:Int} (h0:w.cell? ⟨b,0,none⟩ = some (J Y x)) (h1:w.cell? ⟨b,1,none⟩ = some (J Y y)) (h2:w.cell? ⟨b,2,none⟩ = some (J Y z)) (h3:w.cell? ⟨b,3,none⟩ = some (J Y u)):Jd9 w (some ⟨b,0,none⟩) [x,y,z,u]:=
 Or.inr ⟨b,0,rfl,fun k hk=>by
  match k,hk with
  | 0,_=>exact h0
  | 1,_=>exact h1
  | 2,_=>exact h2
  | 3,_=>exact h3⟩
theorem Jg9 (b off:Nat) (f:Bool) (m0 m1 m2 m3 m4 m5 m6 m7 m8 x0 x1 x2:Int) (W:World) (hc:W.cell? ⟨b,off,none⟩ = some (.bool f)) (hf:W.frozen? ⟨b,off,none⟩ = false) :
  Calls Tryz.prog 99 #[.pointer (some ⟨b,off,none⟩),.agg #[J Y m0,J Y m1,J Y m2,J Y m3,J Y m4,J Y m5,J Y m6,J Y m7,J Y m8],.agg #[J Y x0,J Y x1,J Y x2]] W fun e W'=>∃ v0 v1 v2 g,e = .returned (.agg #[J Y v0,J Y v1,J Y v2])/\Hid (Jc3 f (dot [m0,m1,m2] [x0,x1,x2]) (dot [m3,m4,m5] [x0,x1,x2]) (dot [m6,m7,m8] [x0,x1,x2]) v0 v1 v2 g)/\Hid (After ⟨b,off,none⟩ g W W'):=by
 have hbW:b < W.heap.size:=JB _ _ hc
 go_enter func99,ntmps99
 go_wp2_with (fail)
 refine (Jcj _).mono ?_
 rintro e W1 ⟨rfl,rfl⟩
 obtain ⟨U,hU⟩:∃ U,U = ((((W.alloc (.cells #[J Y m0,J Y m1,J Y m2,J Y m3,J Y m4,J Y m5,J Y m6,J Y m7,J Y m8] 123)).alloc (.cells #[J Y x0,J Y x1,J Y x2] 27)).alloc (.cells #[J Y 0,J Y 0,J Y 0] 27)).alloc (.cells #[.bool false] 53)):=⟨_,rfl⟩
 obtain ⟨pm,hpm⟩:∃ p,p = W.heap.size:=⟨_,rfl⟩
 obtain ⟨pa,hpa⟩:∃ p,p = W.heap.size + 1:=⟨_,rfl⟩
 obtain ⟨pr,hpr⟩:∃ p,p = W.heap.size + 1 + 1:=⟨_,rfl⟩
 obtain ⟨po,hpo⟩:∃ p,p = W.heap.size + 1 + 1 + 1:=⟨_,rfl⟩
 have H:Hid (Ho W U ⟨b,off,none⟩ po f false [(⟨pm,0,none⟩,J Y m0),(⟨pm,1,none⟩,J Y m1),(⟨pm,2,none⟩,J Y m2),(⟨pm,3,none⟩,J Y m3),(⟨pm,4,none⟩,J Y m4),(⟨pm,5,none⟩,J Y m5),(⟨pm,6,none⟩,J Y m6),(⟨pm,7,none⟩,J Y m7),(⟨pm,8,none⟩,J Y m8),(⟨pa,0,none⟩,J Y x0),(⟨pa,1,none⟩,J Y x1),(⟨pa,2,none⟩,J Y x2),(⟨pr,0,none⟩,J Y 0),(⟨pr,1,none⟩,J Y 0),(⟨pr,2,none⟩,J Y 0)]):=by
  refine ⟨by rw [hU];exact (((((Leaves.refl _ _).alloc _).alloc _).alloc _).alloc _),by rw [hU,World.cell?_alloc_past _ _ _ (by simp;omega),World.cell?_alloc_past _ _ _ (by simp;omega),World.cell?_alloc_past _ _ _ (by simp;omega),World.cell?_alloc_past _ _ _ hbW];exact hc,by rw [hU,((Jg _ _).frozen (by simp;omega)),((Jg _ _).frozen (by simp;omega)),((Jg _ _).frozen (by simp;omega)),((Jg _ _).frozen hbW)];exact hf,by rw [hU,hpo];simp [go_sem],by rw [hU,hpo];simp [go_sem],?_,?_,hbW,by omega⟩
  ·intro c hc
   simp only [List.mem_cons,List.not_mem_nil,or_false] at hc
   rcases hc with rfl | rfl | rfl | rfl | rfl | rfl | rfl | rfl | rfl | rfl | rfl | rfl | rfl | rfl | rfl <;> rw [hU] <;> dsimp only <;> first | (rw [hpm];exact ⟨by simp [go_sem],by simp [go_sem]⟩) | (rw [hpa];exact ⟨by simp [go_sem],by simp [go_sem]⟩) | (rw [hpr];exact ⟨by simp [go_sem],by simp [go_sem]⟩)
  ·intro c hc
   simp only [List.mem_cons,List.not_mem_nil,or_false] at hc
   rcases hc with rfl | rfl | rfl | rfl | rfl | rfl | rfl | rfl | rfl | rfl | rfl | rfl | rfl | rfl | rfl <;> (dsimp only) <;> omega
 rw [<- hU]
 simp only [JE]
 rw [<- hpo,<- hpr,<- hpa,<- hpm]
 have zq1:pm < pa:=by omega
 have zq2:pa < pr:=by omega
 have zq3:pr < po:=by omega
 have zq0:W.heap.size <= pm:=by omega
 clear hU hc hf hpm hpa hpr hpo
 have k_pm_0:=(H.out.fix (⟨pm,0,none⟩,J Y m0) (by simp)).1
 have k_pm_1:=(H.out.fix (⟨pm,1,none⟩,J Y m1) (by simp)).1
 have k_pm_2:=(H.out.fix (⟨pm,2,none⟩,J Y m2) (by simp)).1
 have k_pm_3:=(H.out.fix (⟨pm,3,none⟩,J Y m3) (by simp)).1
 have k_pm_4:=(H.out.fix (⟨pm,4,none⟩,J Y m4) (by simp)).1
 have k_pm_5:=(H.out.fix (⟨pm,5,none⟩,J Y m5) (by simp)).1
 have k_pm_6:=(H.out.fix (⟨pm,6,none⟩,J Y m6) (by simp)).1
 have k_pm_7:=(H.out.fix (⟨pm,7,none⟩,J Y m7) (by simp)).1
 have k_pm_8:=(H.out.fix (⟨pm,8,none⟩,J Y m8) (by simp)).1
 have k_pa_0:=(H.out.fix (⟨pa,0,none⟩,J Y x0) (by simp)).1
 have k_pa_1:=(H.out.fix (⟨pa,1,none⟩,J Y x1) (by simp)).1
 have k_pa_2:=(H.out.fix (⟨pa,2,none⟩,J Y x2) (by simp)).1
 have l_pm:=JB _ _ k_pm_0
 dsimp only at l_pm
 have l_pa:=JB _ _ k_pa_0
 dsimp only at l_pa
 have ho:=H.out.own
 have hof:=H.out.ownf
 go_wp2_with (fail)
 refine (Jf9 po 0 false m0 m1 m2 x0 x1 x2 _ ho hof).mono ?_
 rintro e Wg1 ⟨v0,g1,rfl,Sg1,A⟩
 have H:Hid _:=H.out.after A.out
 clear A k_pm_0 k_pm_1 k_pm_2 k_pm_3 k_pm_4 k_pm_5 k_pm_6 k_pm_7 k_pm_8 k_pa_0 k_pa_1 k_pa_2 l_pm l_pa ho hof
 have k_pm_0:=(H.out.fix (⟨pm,0,none⟩,J Y m0) (by simp)).1
 have k_pm_1:=(H.out.fix (⟨pm,1,none⟩,J Y m1) (by simp)).1
 have k_pm_2:=(H.out.fix (⟨pm,2,none⟩,J Y m2) (by simp)).1
 have k_pm_3:=(H.out.fix (⟨pm,3,none⟩,J Y m3) (by simp)).1
 have k_pm_4:=(H.out.fix (⟨pm,4,none⟩,J Y m4) (by simp)).1
 have k_pm_5:=(H.out.fix (⟨pm,5,none⟩,J Y m5) (by simp)).1
 have k_pm_6:=(H.out.fix (⟨pm,6,none⟩,J Y m6) (by simp)).1
 have k_pm_7:=(H.out.fix (⟨pm,7,none⟩,J Y m7) (by simp)).1
 have k_pm_8:=(H.out.fix (⟨pm,8,none⟩,J Y m8) (by simp)).1
 have k_pa_0:=(H.out.fix (⟨pa,0,none⟩,J Y x0) (by simp)).1
 have k_pa_1:=(H.out.fix (⟨pa,1,none⟩,J Y x1) (by simp)).1
 have k_pa_2:=(H.out.fix (⟨pa,2,none⟩,J Y x2) (by simp)).1
 have l_pm:=JB _ _ k_pm_0
 dsimp only at l_pm
 have l_pa:=JB _ _ k_pa_0
 dsimp only at l_pa
 have ho:=H.out.own
 have hof:=H.out.ownf
 go_wp2_with (fail)
 refine (Jf9 po 0 g1 m3 m4 m5 x0 x1 x2 _ ho hof).mono ?_
 rintro e Wg2 ⟨v1,g2,rfl,Sg2,A⟩
 have H:Hid _:=H.out.after A.out
 clear A k_pm_0 k_pm_1 k_pm_2 k_pm_3 k_pm_4 k_pm_5 k_pm_6 k_pm_7 k_pm_8 k_pa_0 k_pa_1 k_pa_2 l_pm l_pa ho hof
 have k_pm_0:=(H.out.fix (⟨pm,0,none⟩,J Y m0) (by simp)).1
 have k_pm_1:=(H.out.fix (⟨pm,1,none⟩,J Y m1) (by simp)).1
 have k_pm_2:=(H.out.fix (⟨pm,2,none⟩,J Y m2) (by simp)).1
 have k_pm_3:=(H.out.fix (⟨pm,3,none⟩,J Y m3) (by simp)).1
 have k_pm_4:=(H.out.fix (⟨pm,4,none⟩,J Y m4) (by simp)).1
 have k_pm_5:=(H.out.fix (⟨pm,5,none⟩,J Y m5) (by simp)).1
 have k_pm_6:=(H.out.fix (⟨pm,6,none⟩,J Y m6) (by simp)).1
 have k_pm_7:=(H.out.fix (⟨pm,7,none⟩,J Y m7) (by simp)).1
 have k_pm_8:=(H.out.fix (⟨pm,8,none⟩,J Y m8) (by simp)).1
 have k_pa_0:=(H.out.fix (⟨pa,0,none⟩,J Y x0) (by simp)).1
 have k_pa_1:=(H.out.fix (⟨pa,1,none⟩,J Y x1) (by simp)).1
 have k_pa_2:=(H.out.fix (⟨pa,2,none⟩,J Y x2) (by simp)).1
 have l_pm:=JB _ _ k_pm_0
 dsimp only at l_pm
 have l_pa:=JB _ _ k_pa_0
 dsimp only at l_pa
 have ho:=H.out.own
 have hof:=H.out.ownf
 go_wp2_with (fail)
 refine (Jf9 po 0 g2 m6 m7 m8 x0 x1 x2 _ ho hof).mono ?_
 rintro e Wg3 ⟨v2,g3,rfl,Sg3,A⟩
 have H:Hid _:=H.out.after A.out
 clear A k_pm_0 k_pm_1 k_pm_2 k_pm_3 k_pm_4 k_pm_5 k_pm_6 k_pm_7 k_pm_8 k_pa_0 k_pa_1 k_pa_2 l_pm l_pa ho hof
 go_wp2_with (fail)
 refine (Jdj b off po f g3 _ H.out.flag H.out.flagf H.out.own (by omega)).mono ?_
 rintro e V9 ⟨rfl,A⟩
 have rr0:=A.out.cellOf (H.out.fix (⟨pr,0,none⟩,J Y 0) (by simp)).1 (by show pr ≠ b;omega)
 have rf0:=A.out.frozenOf (H.out.fix (⟨pr,0,none⟩,J Y 0) (by simp)).1 (H.out.fix (⟨pr,0,none⟩,J Y 0) (by simp)).2 (by show pr ≠ b;omega)
 have rr1:=A.out.cellOf (H.out.fix (⟨pr,1,none⟩,J Y 0) (by simp)).1 (by show pr ≠ b;omega)
 have rf1:=A.out.frozenOf (H.out.fix (⟨pr,1,none⟩,J Y 0) (by simp)).1 (H.out.fix (⟨pr,1,none⟩,J Y 0) (by simp)).2 (by show pr ≠ b;omega)
 have rr2:=A.out.cellOf (H.out.fix (⟨pr,2,none⟩,J Y 0) (by simp)).1 (by show pr ≠ b;omega)
 have rf2:=A.out.frozenOf (H.out.fix (⟨pr,2,none⟩,J Y 0) (by simp)).1 (H.out.fix (⟨pr,2,none⟩,J Y 0) (by simp)).2 (by show pr ≠ b;omega)
 have HL:Hid (Leaves ⟨b,off,none⟩ W V9):=H.out.leaves.same A.out
 have hp:=A.out.cell
 have hpf:=A.out.frozen
 have n1:b ≠ pr:=by omega
 have n2:pr ≠ b:=by omega
 have hWr:W.heap.size <= pr:=by omega
 have HS:Hid _:=Jgo (f:=f) Sg1.out Sg2.out Sg3.out
 clear A H
 cases g3 with
 | true =>
  go_wp2_with (fail)
  refine bodyPost_ret (by simp [results,results99,go_sem,rr0,rr1,rr2];try rfl) rfl ?_
  refine ⟨0,0,0,_,rfl,HS.out,(((HL.out.set hWr _).set hWr _).set hWr _).done ?_ ?_⟩
  ·simp [go_sem,hp]
  ·simp [go_sem,hpf]
 | false =>
  go_wp2_with (fail)
  refine bodyPost_ret (by simp [results,results99,go_sem,rr0,rr1,rr2];try rfl) rfl ?_
  refine ⟨_,_,_,_,rfl,HS.out,(((HL.out.set hWr _).set hWr _).set hWr _).done ?_ ?_⟩
  ·simp [go_sem,hp]
  ·simp [go_sem,hpf]
theorem Jo1 {f g0:Bool} {q0 q1 q2 q3 nn:Int} (h0:Ja7 false (Jae [q0,q1,q2,q3]) nn g0) (hn:nn < 2147483648) :
  (0:Int) = cond (Jw q0 q1 q2 q3) 0 ((Ju q0 4294967296 ((Jae [q0,q1,q2,q3]).getD 0)).getD 0)/\(0:Int) = cond (Jw q0 q1 q2 q3) 0 ((Ju q1 4294967296 ((Jae [q0,q1,q2,q3]).getD 0)).getD 0)/\(0:Int) = cond (Jw q0 q1 q2 q3) 0 ((Ju q2 4294967296 ((Jae [q0,q1,q2,q3]).getD 0)).getD 0)/\(0:Int) = cond (Jw q0 q1 q2 q3) 0 ((Ju q3 4294967296 ((Jae [q0,q1,q2,q3]).getD 0)).getD 0)/\true = (f || Jw q0 q1 q2 q3):=by
 have hb:Jw q0 q1 q2 q3 = true:=by
  unfold Jw
  rw [<- h0.1,decide_eq_true hn,Bool.true_or]
 rw [hb]
 exact ⟨rfl,rfl,rfl,rfl,by simp⟩
theorem Jk4 {f g0 g1 g2 g3 g4:Bool} {q0 q1 q2 q3 nn v0 v1 v2 v3:Int} (hn:¬ nn < 2147483648) (h0:Ja7 false (Jae [q0,q1,q2,q3]) nn g0) (h1:Ja7 g0 (Ju q0 4294967296 nn) v0 g1) (h2:Ja7 g1 (Ju q1 4294967296 nn) v1 g2) (h3:Ja7 g2 (Ju q2 4294967296 nn) v2 g3) (h4:Ja7 g3 (Ju q3 4294967296 nn) v3 g4) :
  cond g4 0 v0 = cond (Jw q0 q1 q2 q3) 0 ((Ju q0 4294967296 ((Jae [q0,q1,q2,q3]).getD 0)).getD 0)/\cond g4 0 v1 = cond (Jw q0 q1 q2 q3) 0 ((Ju q1 4294967296 ((Jae [q0,q1,q2,q3]).getD 0)).getD 0)/\cond g4 0 v2 = cond (Jw q0 q1 q2 q3) 0 ((Ju q2 4294967296 ((Jae [q0,q1,q2,q3]).getD 0)).getD 0)/\cond g4 0 v3 = cond (Jw q0 q1 q2 q3) 0 ((Ju q3 4294967296 ((Jae [q0,q1,q2,q3]).getD 0)).getD 0)/\(f || g4) = (f || Jw q0 q1 q2 q3):=by
 obtain ⟨e0,rfl⟩:=h0
 have hs:(Jae [q0,q1,q2,q3]).isNone = false:=by
  cases hq:Jae [q0,q1,q2,q3] with
  | none=>rw [hq] at e0;simp at e0;omega
  | some m=>rfl
 rw [e0] at h1 h2 h3 h4 hn
 obtain ⟨rfl,rfl⟩:=h1
 obtain ⟨rfl,rfl⟩:=h2
 obtain ⟨rfl,rfl⟩:=h3
 obtain ⟨rfl,rfl⟩:=h4
 have hb:Jw q0 q1 q2 q3 = ((((false || (Jae [q0,q1,q2,q3]).isNone || (Ju q0 4294967296 ((Jae [q0,q1,q2,q3]).getD 0)).isNone) || (Ju q1 4294967296 ((Jae [q0,q1,q2,q3]).getD 0)).isNone) || (Ju q2 4294967296 ((Jae [q0,q1,q2,q3]).getD 0)).isNone) || (Ju q3 4294967296 ((Jae [q0,q1,q2,q3]).getD 0)).isNone):=by
  unfold Jw
  rw [decide_eq_false hn,hs,Bool.false_or,Bool.false_or,Bool.false_or]
 rw [<- hb]
 exact ⟨rfl,rfl,rfl,rfl,rfl⟩
theorem Jlk (b off:Nat) (f:Bool) (q0 q1 q2 q3:Int) (W:World) (hc:W.cell? ⟨b,off,none⟩ = some (.bool f)) (hf:W.frozen? ⟨b,off,none⟩ = false) :
  Calls Tryz.prog 84 #[.pointer (some ⟨b,off,none⟩),.agg #[J Y q0,J Y q1,J Y q2,J Y q3]] W fun e W'=>∃ v0 v1 v2 v3 g,e = .returned (.agg #[J Y v0,J Y v1,J Y v2,J Y v3])/\Hid (v0 = cond (Jw q0 q1 q2 q3) 0 ((Ju q0 4294967296 ((Jae [q0,q1,q2,q3]).getD 0)).getD 0)/\v1 = cond (Jw q0 q1 q2 q3) 0 ((Ju q1 4294967296 ((Jae [q0,q1,q2,q3]).getD 0)).getD 0)/\v2 = cond (Jw q0 q1 q2 q3) 0 ((Ju q2 4294967296 ((Jae [q0,q1,q2,q3]).getD 0)).getD 0)/\v3 = cond (Jw q0 q1 q2 q3) 0 ((Ju q3 4294967296 ((Jae [q0,q1,q2,q3]).getD 0)).getD 0)/\g = (f || Jw q0 q1 q2 q3))/\Hid (After ⟨b,off,none⟩ g W W'):=by
 have hbW:b < W.heap.size:=JB _ _ hc
 go_enter func84,ntmps84
 go_wp2_with (fail)
 refine (Jcj _).mono ?_
 rintro e W1 ⟨rfl,rfl⟩
 obtain ⟨U,hU⟩:∃ U,U = (((W.alloc (.cells #[J Y q0,J Y q1,J Y q2,J Y q3] 29)).alloc (.cells #[J Y 0,J Y 0,J Y 0,J Y 0] 29)).alloc (.cells #[.bool false] 53)):=⟨_,rfl⟩
 obtain ⟨pa,hpa⟩:∃ p,p = W.heap.size:=⟨_,rfl⟩
 obtain ⟨pr,hpr⟩:∃ p,p = W.heap.size + 1:=⟨_,rfl⟩
 obtain ⟨po,hpo⟩:∃ p,p = W.heap.size + 1 + 1:=⟨_,rfl⟩
 have H:Hid (Ho W U ⟨b,off,none⟩ po f false [(⟨pa,0,none⟩,J Y q0),(⟨pa,1,none⟩,J Y q1),(⟨pa,2,none⟩,J Y q2),(⟨pa,3,none⟩,J Y q3),(⟨pr,0,none⟩,J Y 0),(⟨pr,1,none⟩,J Y 0),(⟨pr,2,none⟩,J Y 0),(⟨pr,3,none⟩,J Y 0)]):=by
  refine ⟨by rw [hU];exact ((((Leaves.refl _ _).alloc _).alloc _).alloc _),by rw [hU,World.cell?_alloc_past _ _ _ (by simp;omega),World.cell?_alloc_past _ _ _ (by simp;omega),World.cell?_alloc_past _ _ _ hbW];exact hc,by rw [hU,((Jg _ _).frozen (by simp;omega)),((Jg _ _).frozen (by simp;omega)),((Jg _ _).frozen hbW)];exact hf,by rw [hU,hpo];simp [go_sem],by rw [hU,hpo];simp [go_sem],?_,?_,hbW,by omega⟩
  ·intro c hc
   simp only [List.mem_cons,List.not_mem_nil,or_false] at hc
   rcases hc with rfl | rfl | rfl | rfl | rfl | rfl | rfl | rfl <;> rw [hU] <;> dsimp only <;> first | (rw [hpa];exact ⟨by simp [go_sem],by simp [go_sem]⟩) | (rw [hpr];exact ⟨by simp [go_sem],by simp [go_sem]⟩)
  ·intro c hc
   simp only [List.mem_cons,List.not_mem_nil,or_false] at hc
   rcases hc with rfl | rfl | rfl | rfl | rfl | rfl | rfl | rfl <;> (dsimp only) <;> omega
 rw [<- hU]
 simp only [JE]
 rw [<- hpo,<- hpr,<- hpa]
 have zq1:pa < pr:=by omega
 have zq2:pr < po:=by omega
 have zq0:W.heap.size <= pa:=by omega
 clear hU hc hf hpa hpr hpo
 have k_pa_0:=(H.out.fix (⟨pa,0,none⟩,J Y q0) (by simp)).1
 have k_pa_1:=(H.out.fix (⟨pa,1,none⟩,J Y q1) (by simp)).1
 have k_pa_2:=(H.out.fix (⟨pa,2,none⟩,J Y q2) (by simp)).1
 have k_pa_3:=(H.out.fix (⟨pa,3,none⟩,J Y q3) (by simp)).1
 have l_pa:=JB _ _ k_pa_0
 dsimp only at l_pa
 have ho:=H.out.own
 have hof:=H.out.ownf
 go_wp2_with (fail)
 refine (Jip po 0 false [q0,q1,q2,q3] _ 4 _ (H.out.alloc (.cells #[J Y q0,J Y q1,J Y q2,J Y q3] 3)).own (H.out.alloc (.cells #[J Y q0,J Y q1,J Y q2,J Y q3] 3)).ownf (by simp) (Jp8 (by simp [go_sem]) (by simp [go_sem]) (by simp [go_sem]) (by simp [go_sem]))).mono ?_
 rintro e Wg0 ⟨nn,g0,rfl,Sg0,A⟩
 have H:Hid _:=(H.out.alloc (.cells #[J Y q0,J Y q1,J Y q2,J Y q3] 3)).after A.out
 clear A k_pa_0 k_pa_1 k_pa_2 k_pa_3 l_pa ho hof
 by_cases hn:nn < 2147483648
 ·have hp:=H.out.flag
  have hpf:=H.out.flagf
  have n1:b ≠ pr:=by omega
  have n2:pr ≠ b:=by omega
  have hWr:W.heap.size <= pr:=by omega
  have rr0:=(H.out.fix (⟨pr,0,none⟩,J Y 0) (by simp)).1
  have rf0:=(H.out.fix (⟨pr,0,none⟩,J Y 0) (by simp)).2
  have rr1:=(H.out.fix (⟨pr,1,none⟩,J Y 0) (by simp)).1
  have rf1:=(H.out.fix (⟨pr,1,none⟩,J Y 0) (by simp)).2
  have rr2:=(H.out.fix (⟨pr,2,none⟩,J Y 0) (by simp)).1
  have rf2:=(H.out.fix (⟨pr,2,none⟩,J Y 0) (by simp)).2
  have rr3:=(H.out.fix (⟨pr,3,none⟩,J Y 0) (by simp)).1
  have rf3:=(H.out.fix (⟨pr,3,none⟩,J Y 0) (by simp)).2
  have HL:Hid _:=H.out.leaves
  have HS:Hid _:=Jo1 (f:=f) (q0:=q0) (q1:=q1) (q2:=q2) (q3:=q3) Sg0.out hn
  clear H Sg0
  go_wp2_with (fail)
  refine bodyPost_ret (by simp [results,results84,go_sem,rr0,rr1,rr2,rr3];try rfl) rfl ?_
  refine ⟨0,0,0,0,true,rfl,HS.out,(((((HL.out.own _).set hWr _).set hWr _).set hWr _).set hWr _).done ?_ ?_⟩
  ·simp [go_sem,hp]
  ·simp [go_sem,hpf]
 ·have HN:Hid _:=hn
  have k_pa_0:=(H.out.fix (⟨pa,0,none⟩,J Y q0) (by simp)).1
  have k_pa_1:=(H.out.fix (⟨pa,1,none⟩,J Y q1) (by simp)).1
  have k_pa_2:=(H.out.fix (⟨pa,2,none⟩,J Y q2) (by simp)).1
  have k_pa_3:=(H.out.fix (⟨pa,3,none⟩,J Y q3) (by simp)).1
  have l_pa:=JB _ _ k_pa_0
  dsimp only at l_pa
  have ho:=H.out.own
  have hof:=H.out.ownf
  go_wp2_with (fail)
  refine (Jej po 0 g0 q0 nn _ ho hof).mono ?_
  rintro e Wg1 ⟨v0,g1,rfl,Sg1,A⟩
  have H:Hid _:=H.out.after A.out
  clear A k_pa_0 k_pa_1 k_pa_2 k_pa_3 l_pa ho hof
  have k_pa_0:=(H.out.fix (⟨pa,0,none⟩,J Y q0) (by simp)).1
  have k_pa_1:=(H.out.fix (⟨pa,1,none⟩,J Y q1) (by simp)).1
  have k_pa_2:=(H.out.fix (⟨pa,2,none⟩,J Y q2) (by simp)).1
  have k_pa_3:=(H.out.fix (⟨pa,3,none⟩,J Y q3) (by simp)).1
  have l_pa:=JB _ _ k_pa_0
  dsimp only at l_pa
  have ho:=H.out.own
  have hof:=H.out.ownf
  go_wp2_with (fail)
  refine (Jej po 0 g1 q1 nn _ ho hof).mono ?_
  rintro e Wg2 ⟨v1,g2,rfl,Sg2,A⟩
  have H:Hid _:=H.out.after A.out
  clear A k_pa_0 k_pa_1 k_pa_2 k_pa_3 l_pa ho hof
  have k_pa_0:=(H.out.fix (⟨pa,0,none⟩,J Y q0) (by simp)).1
  have k_pa_1:=(H.out.fix (⟨pa,1,none⟩,J Y q1) (by simp)).1
  have k_pa_2:=(H.out.fix (⟨pa,2,none⟩,J Y q2) (by simp)).1
  have k_pa_3:=(H.out.fix (⟨pa,3,none⟩,J Y q3) (by simp)).1
  have l_pa:=JB _ _ k_pa_0
  dsimp only at l_pa
  have ho:=H.out.own
  have hof:=H.out.ownf
  go_wp2_with (fail)
  refine (Jej po 0 g2 q2 nn _ ho hof).mono ?_
  rintro e Wg3 ⟨v2,g3,rfl,Sg3,A⟩
  have H:Hid _:=H.out.after A.out
  clear A k_pa_0 k_pa_1 k_pa_2 k_pa_3 l_pa ho hof
  have k_pa_0:=(H.out.fix (⟨pa,0,none⟩,J Y q0) (by simp)).1
  have k_pa_1:=(H.out.fix (⟨pa,1,none⟩,J Y q1) (by simp)).1
  have k_pa_2:=(H.out.fix (⟨pa,2,none⟩,J Y q2) (by simp)).1
  have k_pa_3:=(H.out.fix (⟨pa,3,none⟩,J Y q3) (by simp)).1
  have l_pa:=JB _ _ k_pa_0
  dsimp only at l_pa
  have ho:=H.out.own
  have hof:=H.out.ownf
  go_wp2_with (fail)
  refine (Jej po 0 g3 q3 nn _ ho hof).mono ?_
  rintro e Wg4 ⟨v3,g4,rfl,Sg4,A⟩
  have H:Hid _:=H.out.after A.out
  clear A k_pa_0 k_pa_1 k_pa_2 k_pa_3 l_pa ho hof
  go_wp2_with (fail)
  refine (Jdj b off po f g4 _ H.out.flag H.out.flagf H.out.own (by omega)).mono ?_
  rintro e V9 ⟨rfl,A⟩
  have rr0:=A.out.cellOf (H.out.fix (⟨pr,0,none⟩,J Y 0) (by simp)).1 (by show pr ≠ b;omega)
  have rf0:=A.out.frozenOf (H.out.fix (⟨pr,0,none⟩,J Y 0) (by simp)).1 (H.out.fix (⟨pr,0,none⟩,J Y 0) (by simp)).2 (by show pr ≠ b;omega)
  have rr1:=A.out.cellOf (H.out.fix (⟨pr,1,none⟩,J Y 0) (by simp)).1 (by show pr ≠ b;omega)
  have rf1:=A.out.frozenOf (H.out.fix (⟨pr,1,none⟩,J Y 0) (by simp)).1 (H.out.fix (⟨pr,1,none⟩,J Y 0) (by simp)).2 (by show pr ≠ b;omega)
  have rr2:=A.out.cellOf (H.out.fix (⟨pr,2,none⟩,J Y 0) (by simp)).1 (by show pr ≠ b;omega)
  have rf2:=A.out.frozenOf (H.out.fix (⟨pr,2,none⟩,J Y 0) (by simp)).1 (H.out.fix (⟨pr,2,none⟩,J Y 0) (by simp)).2 (by show pr ≠ b;omega)
  have rr3:=A.out.cellOf (H.out.fix (⟨pr,3,none⟩,J Y 0) (by simp)).1 (by show pr ≠ b;omega)
  have rf3:=A.out.frozenOf (H.out.fix (⟨pr,3,none⟩,J Y 0) (by simp)).1 (H.out.fix (⟨pr,3,none⟩,J Y 0) (by simp)).2 (by show pr ≠ b;omega)
  have HL:Hid (Leaves ⟨b,off,none⟩ W V9):=H.out.leaves.same A.out
  have hp:=A.out.cell
  have hpf:=A.out.frozen
  have n1:b ≠ pr:=by omega
  have n2:pr ≠ b:=by omega
  have hWr:W.heap.size <= pr:=by omega
  have HS:Hid _:=Jk4 (f:=f) HN.out Sg0.out Sg1.out Sg2.out Sg3.out Sg4.out
  clear A H
  cases g4 with
  | true =>
   go_wp2_with (fail)
   refine bodyPost_ret (by simp [results,results84,go_sem,rr0,rr1,rr2,rr3];try rfl) rfl ?_
   refine ⟨0,0,0,0,_,rfl,HS.out,((((HL.out.set hWr _).set hWr _).set hWr _).set hWr _).done ?_ ?_⟩
   ·simp [go_sem,hp]
   ·simp [go_sem,hpf]
  | false =>
   go_wp2_with (fail)
   refine bodyPost_ret (by simp [results,results84,go_sem,rr0,rr1,rr2,rr3];try rfl) rfl ?_
   refine ⟨_,_,_,_,_,rfl,HS.out,((((HL.out.set hWr _).set hWr _).set hWr _).set hWr _).done ?_ ?_⟩
   ·simp [go_sem,hp]
   ·simp [go_sem,hpf]
end
end Go.Proofs.YteebbpioffdncaaGreat
