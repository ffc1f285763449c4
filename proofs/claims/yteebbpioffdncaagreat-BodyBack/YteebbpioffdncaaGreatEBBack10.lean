/- The reference's numbers by digits (tumblerref01): quotients, down, bit by bit. -/
import Derived.Test.YteebbpioffdncaaGreatEBBack9
import Derived.Deep.RegionHeld3
import Derived.Test.YteebbpioffdncaaGreatEBBack5
import Derived.Test.YteebbpioffdncaaGreatEBBack4
set_option maxHeartbeats 4000000
set_option linter.unusedVariables false
namespace Go.Proofs.YteebbpioffdncaaGreat
open Go.Calls renaming mono -> JA
open Tryz
open Go.Value renaming int -> J
open Go.IntKind renaming i64 -> Y
section
open Go.RowKit Ref
def top (d:Nat->Int) (k:Nat):Int:=val (fun j=>d (k + j)) (8 - k)
theorem Jny (d:Nat->Int):top d 8 = 0:=rfl
theorem Jj2 (d:Nat->Int):top d 0 = val d 8:=Jey 8 fun j _=>by simp
theorem Jkj (d:Nat->Int) (k:Nat) (hk:k < 8):top d k = top d (k + 1) * 16777216 + d k:=by
 unfold top
 have h:=Jer (fun j=>d (k + j)) 1 (8 - (k + 1))
 rw [show 1 + (8 - (k + 1)) = 8 - k by omega] at h
 rw [h]
 have e:val (fun j=>d (k + (1 + j))) (8 - (k + 1)) = val (fun j=>d (k + 1 + j)) (8 - (k + 1)):=Jey _ fun j _=>by rw [<- Nat.add_assoc]
 rw [e]
 have e1:val (fun j=>d (k + j)) 1 = d k:=by simp [val]
 rw [e1,Int.pow_succ,Int.pow_zero]
 generalize val (fun j=>d (k + 1 + j)) (8 - (k + 1)) = R
 omega
theorem Jq1 {d:Nat->Int} (hd:Digs d) (k:Nat) (hk:k <= 8):top d k <= val d 8:=by
 have h:=Jer d k (8 - k)
 rw [show k + (8 - k) = 8 by omega] at h
 have h0:0 <= val d k:=Jcf k fun j hj=>(hd j (by omega)).1
 have h1:0 <= top d k:=Jcf _ fun j hj=>(hd (k + j) (by omega)).1
 have h2:=pos k
 have h3:1 * top d k <= 16777216 ^ k * top d k:=Int.mul_le_mul_of_nonneg_right (by omega) h1
 unfold top at *
 omega
theorem Jhg {d:Nat->Int} (hd:Digs d) (k:Nat) (hk:k <= 8):0 <= top d k:=Jcf _ fun j hj=>(hd (k + j) (by omega)).1
def Jdu:Nat->Int
 | 0=>0
 | m + 1=>2 ^ m
theorem Jhh (m:Nat):(2:Int) ^ m / 2 = Jdu m:=by
 cases m with
 | zero=>rfl
 | succ m=>simp only [Jdu,Int.pow_succ];omega
theorem Jck (m:Nat):(0:Int) < 2 ^ m:=Int.pow_pos (by omega)
theorem Jp6 {m:Nat} (h:m < 24):(2:Int) ^ m <= 8388608:=by
 have h1:(2:Int) ^ 23 = 2 ^ m * 2 ^ (23 - m):=by rw [<- Int.pow_add];congr 1;omega
 have h2:=Jck (23 - m)
 have h3:=Jck m
 have h4:(2:Int) ^ m * 1 <= 2 ^ m * 2 ^ (23 - m):=Int.mul_le_mul_of_nonneg_left (by omega) (by omega)
 have h5:(2:Int) ^ 23 = 8388608:=by decide
 omega
theorem Jlc {P x N q r C:Int} {m:Nat} (hm:m < 24) (hN:N = P * 2 ^ (24 - (m + 1)) + x / 2 ^ (m + 1)) (h:q * C + r = N):2 * q * C + (2 * r + x / 2 ^ m % 2) = P * 2 ^ (24 - m) + x / 2 ^ m:=by
 have e:x / 2 ^ (m + 1) = x / 2 ^ m / 2:=by rw [Int.pow_succ,Int.ediv_ediv_of_nonneg (Int.le_of_lt (Jck m))]
 have e2:(2:Int) ^ (24 - m) = 2 ^ (24 - (m + 1)) * 2:=by rw [<- Int.pow_succ];congr 1;omega
 rw [e] at hN
 rw [e2]
 generalize x / 2 ^ m = y at *
 generalize (2:Int) ^ (24 - (m + 1)) = Z at *
 have h2:y / 2 * 2 + y % 2 = y:=by omega
 subst hN
 grind
theorem Jhd {P x N q r C V:Int} {m:Nat} (hm:m < 24) (hP:0 <= P) (hx:0 <= x) (hr:0 <= r) (hC:0 < C) (hN:N = P * 2 ^ (24 - (m + 1)) + x / 2 ^ (m + 1)) (h:q * C + r = N) (hq:2305843009213693951 < q) (hV:P * 16777216 + x <= V) :
  4611686018427387904 <= V / C:=by
 apply (Int.le_ediv_iff_mul_le hC).2
 have e1:(16777216:Int) = 2 ^ (24 - (m + 1)) * 2 ^ (m + 1):=by rw [<- Int.pow_add,show 24 - (m + 1) + (m + 1) = 24 by omega];decide
 have h1:=Jck (24 - (m + 1))
 have h2:=Jck m
 have h3:(2:Int) ^ (m + 1) = 2 ^ m * 2:=Int.pow_succ ..
 have h4:0 <= P * 2 ^ (24 - (m + 1)):=Int.mul_nonneg hP (by omega)
 have h5:P * 2 ^ (24 - (m + 1)) * 2 <= P * 2 ^ (24 - (m + 1)) * 2 ^ (m + 1):=Int.mul_le_mul_of_nonneg_left (by omega) h4
 have h6:P * 16777216 = P * 2 ^ (24 - (m + 1)) * 2 ^ (m + 1):=by rw [Int.mul_assoc,<- e1]
 have h7:x / 2 ^ (m + 1) * 2 <= x:=by
  have a:=Int.emod_add_mul_ediv x (2 ^ (m + 1))
  have b:=Int.emod_nonneg x (by omega:(2:Int) ^ (m + 1) ≠ 0)
  have c:0 <= x / 2 ^ (m + 1):=Int.ediv_nonneg hx (by omega)
  have d:2 * (x / 2 ^ (m + 1)) <= 2 ^ (m + 1) * (x / 2 ^ (m + 1)):=Int.mul_le_mul_of_nonneg_right (by omega) c
  omega
 have h8:2305843009213693952 * C <= q * C:=Int.mul_le_mul_of_nonneg_right (by omega) (by omega)
 omega
theorem Jku {n:Bool} {d:Nat->Int} {q r C:Int} (hC:0 < C) (hr0:0 <= r) (hr:r < C) (h:q * C + r = val d 8):sv n d / C = if n then (if r = 0 then -q else -(q + 1)) else q:=by
 have hd:=Fx.div_of (n:=val d 8) (q:=q) hC (by omega) (by rw [Int.add_mul];omega)
 unfold sv
 cases n
 ·simp [hd.1]
 ·simp only [if_true]
  rw [Fx.neg_div hC,hd.1,hd.2]
  have:(val d 8 - q * C = 0) ↔ r = 0:=by omega
  simp [this]
theorem Jg1 {n:Bool} {d:Nat->Int} {C:Int} (hC:0 < C) (h:4611686018427387904 <= val d 8 / C):Fx.great (sv n d / C) = true:=by
 rw [Fx.great_iff]
 unfold sv
 cases n
 ·simp;omega
 ·simp only [if_true]
  rw [Fx.neg_div hC]
  split <;> omega
theorem Jqi (s:Bool) (a:Nat->Int) (c:Int) (w:World) (ha:Digs a) (hc:0 < c) (hc2:c <= 4611686018427387903) :
  Calls Tryz.prog 127 #[wv s a,J Y c] w fun e w'=>∃ n ok,e = .returned (.tuple #[J Y n,.bool ok])/\Hid (ok = !Fx.great (sv s a / c)/\n = if ok then sv s a / c else 0)/\Hid (Below w.heap.size w w'):=by
 obtain ⟨C,hC⟩:∃ C,C = c:=⟨_,rfl⟩
 have hC0:0 < C:=by omega
 have hC1:C <= 4611686018427387903:=by omega
 rw [<- hC]
 have HA:Hid _:=ha
 have HG:Hid (4611686018427387904 <= val a 8 / C->Fx.great (sv s a / C) = true):=Jg1 hC0
 have HE:Hid (∀ q r,0 <= r->r < C->q * C + r = val a 8->sv s a / C = if s then (if r = 0 then -q else -(q + 1)) else q):=fun q r h1 h2 h3=>Jku hC0 h1 h2 h3
 clear ha
 go_enter func127,ntmps127
 go_wp2
 rw [<- hC]
 clear hC
 go_loopw [7,8,9] (fun qq rr i wr=>∃ (k:Nat) (q r:Int),k <= 8/\i = J Y ((k:Int) - 1)/\qq = J Y q/\rr = J Y r/\0 <= q/\q <= 4611686018427387903/\0 <= r/\r < C/\Hid (q * C + r = top a k)/\Hid (RLies wr w.heap.size s a)/\Hid (Below w.heap.size w wr)) (fun _ _ i _=>(intOf i + 1).toNat)
 case atStart=>exact ⟨8,0,0,Nat.le_refl _,rfl,rfl,rfl,by omega,by omega,by omega,hC0,by show _ = _;rw [Jny];simp,J4 w s a 58,Jg w _⟩
 case round =>
  obtain ⟨k,q,r,hk,rfl,rfl,rfl,hq0,hq1,hr0,hr1,HI,HL,HB⟩:=hrel
  match k,hk,HI with
  | 0,_,HI =>
   have HV:Hid _:=HE.out q r hr0 hr1 (by rw [<- Jj2];exact HI.out)
   clear HE HG HI HA
   cases s
   ·skip
    go_wp2
    go_ret2
    exact ⟨q,true,rfl,⟨by rw [HV.out,if_neg (by simp),(Fx.not_great _).2 ⟨by omega,hq1⟩];rfl,by rw [HV.out];simp⟩,HB.out⟩
   ·skip
    rcases Int.lt_trichotomy r 0 with hr | hr | hr
    ·omega
    ·subst hr
     rw [if_pos (by simp),if_pos rfl] at HV
     go_wp2
     go_ret2
     exact ⟨-q,true,rfl,⟨by rw [HV.out,(Fx.not_great _).2 ⟨by omega,by omega⟩];rfl,by rw [HV.out];simp⟩,HB.out⟩
    ·rw [if_pos (by simp),if_neg (by omega)] at HV
     by_cases hm:q = 4611686018427387903
     ·subst hm
      go_wp2
      go_ret2
      exact ⟨0,false,rfl,⟨by rw [HV.out];decide,by simp⟩,HB.out⟩
     ·go_wp2
      go_ret2
      exact ⟨-(q + 1),true,rfl,⟨by rw [HV.out,(Fx.not_great _).2 ⟨by omega,by omega⟩];rfl,by rw [HV.out];simp⟩,HB.out⟩
  | k + 1,hk,HI =>
   have e:((k + 1:Nat):Int) - 1 = (k:Int):=by omega
   rw [e]
   have i0:(0:Int) <= (k:Int):=by omega
   have i1:(k:Int) < 8:=by omega
   have c0:=HL.out.dig k (by omega)
   have b0:=HA.out k (by omega)
   have HT:Hid _:=Jkj a k (by omega)
   have HP:Hid _:=Jhg HA.out (k + 1) (by omega)
   have HW:Hid _:=Jq1 HA.out k (by omega)
   obtain ⟨x,hx⟩:∃ x,x = a k:=⟨_,rfl⟩
   obtain ⟨P,hP⟩:∃ P,P = top a (k + 1):=⟨_,rfl⟩
   rw [<- hx] at c0 b0 HT
   rw [<- hP] at HT HP HI
   have HX:Hid _:=hx
   clear hx hP e
   by_cases hskip:x = 0/\q = 0/\r = 0
   ·obtain ⟨rfl,rfl,rfl⟩:=hskip
    have HM:Hid (0 * C + 0 = top a k):=by show _ = _;rw [HT.out,<- HI.out];omega
    go_wp2
    go_roundw
    case rel=>exact ⟨k,0,0,by omega,by go_num,rfl,rfl,by omega,by omega,by omega,hC0,HM.out,HL.out,HB.out⟩
    case measure=>show (((k:Int) - 1) + 1).toNat < ((k:Int) + 1).toNat;omega
   ·have hor:x ≠ 0 \/ (x = 0/\q ≠ 0) \/ (x = 0/\q = 0/\r ≠ 0):=by omega
    clear hskip
    rcases hor with g | ⟨g,g'⟩ | ⟨g,g',g''⟩
    all_goals go_wp2
    all_goals try clear g''
    all_goals try clear g'
    all_goals clear g
    all_goals (
     go_loopw [7,8,10] (fun qq rr bb wr=>∃ (m:Nat) (q r:Int),m <= 24/\bb = J Y (Jdu m)/\qq = J Y q/\rr = J Y r/\0 <= q/\q <= 4611686018427387903/\0 <= r/\r < C/\Hid (q * C + r = P * 2 ^ (24 - m) + x / 2 ^ m)/\Hid (RLies wr w.heap.size s a)/\Hid (Below w.heap.size w wr)) (fun _ _ bb _=>(intOf bb).toNat)
     case atStart=>exact ⟨24,q,r,Nat.le_refl _,by simp [Jdu],rfl,rfl,hq0,hq1,hr0,hr1,by show _ = _;rw [HI.out,Int.ediv_eq_zero_of_lt (by omega) (by simpa using b0.2)];simp,HL.out,HB.out⟩
     case round =>
      clear HI HL HB c0 hq0 hq1 hr0 hr1
      obtain ⟨m,q,r,hm,rfl,rfl,rfl,hq0,hq1,hr0,hr1,HI,HL,HB⟩:=hrel
      match m,hm,HI with
      | 0,_,HI =>
       have HM:Hid (q * C + r = top a k):=by show _ = _;rw [HI.out,HT.out];simp
       have hb0:Jdu 0 = 0:=rfl
       rw [hb0]
       go_wp2
       go_roundw
       case rel=>exact ⟨k,q,r,by omega,by go_num,rfl,rfl,hq0,hq1,hr0,hr1,HM.out,HL.out,HB.out⟩
       case measure=>show (((k:Int) - 1) + 1).toNat < ((k:Int) + 1).toNat;omega
      | m + 1,hm,HI =>
       have hb0:Jdu (m + 1) = 2 ^ m:=rfl
       rw [hb0]
       have c0:=HL.out.dig k (by omega)
       rw [<- HX.out] at c0
       have HN:Hid (∀ q' r':Int,q' * C + r' = 2 * q * C + (2 * r + x / 2 ^ m % 2)->q' * C + r' = P * 2 ^ (24 - m) + x / 2 ^ m):=fun q' r' h=>h.trans (Jlc (by omega:m < 24) rfl HI.out)
       have HY:Hid (2305843009213693951 < q->4611686018427387904 <= val a 8 / C):=fun h=>Jhd (by omega:m < 24) HP.out b0.1 hr0 hC0 rfl HI.out h (by rw [<- HT.out];exact HW.out)
       have HH:Hid _:=Jhh m
       have hb1:=Jck m
       have hb2:=Jp6 (by omega:m < 24)
       obtain ⟨bt,hbt⟩:∃ b,b = (2:Int) ^ m:=⟨_,rfl⟩
       rw [<- hbt] at HH hb1 hb2
       rw [<- hbt]
       have y0:0 <= x / bt:=Int.ediv_nonneg b0.1 (by omega)
       have y1:x / bt <= x:=Int.ediv_le_self _ b0.1
       obtain ⟨y,hy⟩:∃ y,y = x / bt:=⟨_,rfl⟩
       have HYY:Hid (y = x / 2 ^ m):=by show _ = _;rw [<- hbt];exact hy
       rw [<- hy] at y0 y1
       clear hbt hb0 HI
       have hbit:y % 2 = 1 \/ y % 2 = 0:=by omega
       rcases hbit with hbit | hbit
       ·skip
        by_cases hq:2305843009213693951 < q
        ·have HZ:Hid _:=HG.out (HY.out hq)
         go_wp2
         go_ret2
         exact ⟨0,false,rfl,⟨by rw [HZ.out];rfl,rfl⟩,HB.out⟩
        by_cases hr:C <= 2 * r + 1
        ·skip
         go_wp2
         go_roundw
         case rel=>exact ⟨m,2 * q + 1,2 * r + 1 - C,by omega,by rw [HH.out],rfl,rfl,by omega,by omega,by omega,by omega,HN.out _ _ (by rw [<- HYY.out,hbit];rw [Int.add_mul];omega),HL.out,HB.out⟩
         case measure=>show (bt / 2).toNat < bt.toNat;omega
        ·skip
         go_wp2
         go_roundw
         case rel=>exact ⟨m,2 * q,2 * r + 1,by omega,by rw [HH.out],rfl,rfl,by omega,by omega,by omega,by omega,HN.out _ _ (by rw [<- HYY.out,hbit]),HL.out,HB.out⟩
         case measure=>show (bt / 2).toNat < bt.toNat;omega
       ·skip
        by_cases hq:2305843009213693951 < q
        ·have HZ:Hid _:=HG.out (HY.out hq)
         go_wp2
         go_ret2
         exact ⟨0,false,rfl,⟨by rw [HZ.out];rfl,rfl⟩,HB.out⟩
        by_cases hr:C <= 2 * r
        ·skip
         go_wp2
         go_roundw
         case rel=>exact ⟨m,2 * q + 1,2 * r - C,by omega,by rw [HH.out],rfl,rfl,by omega,by omega,by omega,by omega,HN.out _ _ (by rw [<- HYY.out,hbit];rw [Int.add_mul];omega),HL.out,HB.out⟩
         case measure=>show (bt / 2).toNat < bt.toNat;omega
        ·skip
         go_wp2
         go_roundw
         case rel=>exact ⟨m,2 * q,2 * r,by omega,by rw [HH.out],rfl,rfl,by omega,by omega,by omega,by omega,HN.out _ _ (by rw [<- HYY.out,hbit];omega),HL.out,HB.out⟩
         case measure=>show (bt / 2).toNat < bt.toNat;omega)
theorem Jqa (s:Bool) (a:Nat->Int) (c:Int) (w:World) (ha:Digs a) (hc:c < 0) (hc2:-4611686018427387903 <= c) :
  Calls Tryz.prog 127 #[wv s a,J Y c] w fun e w'=>∃ n ok,e = .returned (.tuple #[J Y n,.bool ok])/\Hid (ok = !Fx.great (sv (!s) a / (-c))/\n = if ok then sv (!s) a / (-c) else 0)/\Hid (Below w.heap.size w w'):=by
 obtain ⟨C,hC⟩:∃ C,C = (-c):=⟨_,rfl⟩
 have hC0:0 < C:=by omega
 have hC1:C <= 4611686018427387903:=by omega
 rw [<- hC]
 have HA:Hid _:=ha
 have HG:Hid (4611686018427387904 <= val a 8 / C->Fx.great (sv (!s) a / C) = true):=Jg1 hC0
 have HE:Hid (∀ q r,0 <= r->r < C->q * C + r = val a 8->sv (!s) a / C = if (!s) then (if r = 0 then -q else -(q + 1)) else q):=fun q r h1 h2 h3=>Jku hC0 h1 h2 h3
 clear ha
 go_enter func127,ntmps127
 go_wp2
 rw [<- hC]
 clear hC
 go_loopw [7,8,9] (fun qq rr i wr=>∃ (k:Nat) (q r:Int),k <= 8/\i = J Y ((k:Int) - 1)/\qq = J Y q/\rr = J Y r/\0 <= q/\q <= 4611686018427387903/\0 <= r/\r < C/\Hid (q * C + r = top a k)/\Hid (RLies wr w.heap.size s a)/\Hid (Below w.heap.size w wr)) (fun _ _ i _=>(intOf i + 1).toNat)
 case atStart=>exact ⟨8,0,0,Nat.le_refl _,rfl,rfl,rfl,by omega,by omega,by omega,hC0,by show _ = _;rw [Jny];simp,J4 w s a 58,Jg w _⟩
 case round =>
  obtain ⟨k,q,r,hk,rfl,rfl,rfl,hq0,hq1,hr0,hr1,HI,HL,HB⟩:=hrel
  match k,hk,HI with
  | 0,_,HI =>
   have HV:Hid _:=HE.out q r hr0 hr1 (by rw [<- Jj2];exact HI.out)
   clear HE HG HI HA
   cases s
   ·skip
    rcases Int.lt_trichotomy r 0 with hr | hr | hr
    ·omega
    ·subst hr
     rw [if_pos (by simp),if_pos rfl] at HV
     go_wp2
     go_ret2
     exact ⟨-q,true,rfl,⟨by rw [HV.out,(Fx.not_great _).2 ⟨by omega,by omega⟩];rfl,by rw [HV.out];simp⟩,HB.out⟩
    ·rw [if_pos (by simp),if_neg (by omega)] at HV
     by_cases hm:q = 4611686018427387903
     ·subst hm
      go_wp2
      go_ret2
      exact ⟨0,false,rfl,⟨by rw [HV.out];decide,by simp⟩,HB.out⟩
     ·go_wp2
      go_ret2
      exact ⟨-(q + 1),true,rfl,⟨by rw [HV.out,(Fx.not_great _).2 ⟨by omega,by omega⟩];rfl,by rw [HV.out];simp⟩,HB.out⟩
   ·skip
    go_wp2
    go_ret2
    exact ⟨q,true,rfl,⟨by rw [HV.out,if_neg (by simp),(Fx.not_great _).2 ⟨by omega,hq1⟩];rfl,by rw [HV.out];simp⟩,HB.out⟩
  | k + 1,hk,HI =>
   have e:((k + 1:Nat):Int) - 1 = (k:Int):=by omega
   rw [e]
   have i0:(0:Int) <= (k:Int):=by omega
   have i1:(k:Int) < 8:=by omega
   have c0:=HL.out.dig k (by omega)
   have b0:=HA.out k (by omega)
   have HT:Hid _:=Jkj a k (by omega)
   have HP:Hid _:=Jhg HA.out (k + 1) (by omega)
   have HW:Hid _:=Jq1 HA.out k (by omega)
   obtain ⟨x,hx⟩:∃ x,x = a k:=⟨_,rfl⟩
   obtain ⟨P,hP⟩:∃ P,P = top a (k + 1):=⟨_,rfl⟩
   rw [<- hx] at c0 b0 HT
   rw [<- hP] at HT HP HI
   have HX:Hid _:=hx
   clear hx hP e
   by_cases hskip:x = 0/\q = 0/\r = 0
   ·obtain ⟨rfl,rfl,rfl⟩:=hskip
    have HM:Hid (0 * C + 0 = top a k):=by show _ = _;rw [HT.out,<- HI.out];omega
    go_wp2
    go_roundw
    case rel=>exact ⟨k,0,0,by omega,by go_num,rfl,rfl,by omega,by omega,by omega,hC0,HM.out,HL.out,HB.out⟩
    case measure=>show (((k:Int) - 1) + 1).toNat < ((k:Int) + 1).toNat;omega
   ·have hor:x ≠ 0 \/ (x = 0/\q ≠ 0) \/ (x = 0/\q = 0/\r ≠ 0):=by omega
    clear hskip
    rcases hor with g | ⟨g,g'⟩ | ⟨g,g',g''⟩
    all_goals go_wp2
    all_goals try clear g''
    all_goals try clear g'
    all_goals clear g
    all_goals (
     go_loopw [7,8,10] (fun qq rr bb wr=>∃ (m:Nat) (q r:Int),m <= 24/\bb = J Y (Jdu m)/\qq = J Y q/\rr = J Y r/\0 <= q/\q <= 4611686018427387903/\0 <= r/\r < C/\Hid (q * C + r = P * 2 ^ (24 - m) + x / 2 ^ m)/\Hid (RLies wr w.heap.size s a)/\Hid (Below w.heap.size w wr)) (fun _ _ bb _=>(intOf bb).toNat)
     case atStart=>exact ⟨24,q,r,Nat.le_refl _,by simp [Jdu],rfl,rfl,hq0,hq1,hr0,hr1,by show _ = _;rw [HI.out,Int.ediv_eq_zero_of_lt (by omega) (by simpa using b0.2)];simp,HL.out,HB.out⟩
     case round =>
      clear HI HL HB c0 hq0 hq1 hr0 hr1
      obtain ⟨m,q,r,hm,rfl,rfl,rfl,hq0,hq1,hr0,hr1,HI,HL,HB⟩:=hrel
      match m,hm,HI with
      | 0,_,HI =>
       have HM:Hid (q * C + r = top a k):=by show _ = _;rw [HI.out,HT.out];simp
       have hb0:Jdu 0 = 0:=rfl
       rw [hb0]
       go_wp2
       go_roundw
       case rel=>exact ⟨k,q,r,by omega,by go_num,rfl,rfl,hq0,hq1,hr0,hr1,HM.out,HL.out,HB.out⟩
       case measure=>show (((k:Int) - 1) + 1).toNat < ((k:Int) + 1).toNat;omega
      | m + 1,hm,HI =>
       have hb0:Jdu (m + 1) = 2 ^ m:=rfl
       rw [hb0]
       have c0:=HL.out.dig k (by omega)
       rw [<- HX.out] at c0
       have HN:Hid (∀ q' r':Int,q' * C + r' = 2 * q * C + (2 * r + x / 2 ^ m % 2)->q' * C + r' = P * 2 ^ (24 - m) + x / 2 ^ m):=fun q' r' h=>h.trans (Jlc (by omega:m < 24) rfl HI.out)
       have HY:Hid (2305843009213693951 < q->4611686018427387904 <= val a 8 / C):=fun h=>Jhd (by omega:m < 24) HP.out b0.1 hr0 hC0 rfl HI.out h (by rw [<- HT.out];exact HW.out)
       have HH:Hid _:=Jhh m
       have hb1:=Jck m
       have hb2:=Jp6 (by omega:m < 24)
       obtain ⟨bt,hbt⟩:∃ b,b = (2:Int) ^ m:=⟨_,rfl⟩
       rw [<- hbt] at HH hb1 hb2
       rw [<- hbt]
       have y0:0 <= x / bt:=Int.ediv_nonneg b0.1 (by omega)
       have y1:x / bt <= x:=Int.ediv_le_self _ b0.1
       obtain ⟨y,hy⟩:∃ y,y = x / bt:=⟨_,rfl⟩
       have HYY:Hid (y = x / 2 ^ m):=by show _ = _;rw [<- hbt];exact hy
       rw [<- hy] at y0 y1
       clear hbt hb0 HI
       have hbit:y % 2 = 1 \/ y % 2 = 0:=by omega
       rcases hbit with hbit | hbit
       ·skip
        by_cases hq:2305843009213693951 < q
        ·have HZ:Hid _:=HG.out (HY.out hq)
         go_wp2
         go_ret2
         exact ⟨0,false,rfl,⟨by rw [HZ.out];rfl,rfl⟩,HB.out⟩
        by_cases hr:C <= 2 * r + 1
        ·skip
         go_wp2
         go_roundw
         case rel=>exact ⟨m,2 * q + 1,2 * r + 1 - C,by omega,by rw [HH.out],rfl,rfl,by omega,by omega,by omega,by omega,HN.out _ _ (by rw [<- HYY.out,hbit];rw [Int.add_mul];omega),HL.out,HB.out⟩
         case measure=>show (bt / 2).toNat < bt.toNat;omega
        ·skip
         go_wp2
         go_roundw
         case rel=>exact ⟨m,2 * q,2 * r + 1,by omega,by rw [HH.out],rfl,rfl,by omega,by omega,by omega,by omega,HN.out _ _ (by rw [<- HYY.out,hbit]),HL.out,HB.out⟩
         case measure=>show (bt / 2).toNat < bt.toNat;omega
       ·skip
        by_cases hq:2305843009213693951 < q
        ·have HZ:Hid _:=HG.out (HY.out hq)
         go_wp2
         go_ret2
         exact ⟨0,false,rfl,⟨by rw [HZ.out];rfl,rfl⟩,HB.out⟩
        by_cases hr:C <= 2 * r
        ·skip
         go_wp2
         go_roundw
         case rel=>exact ⟨m,2 * q + 1,2 * r - C,by omega,by rw [HH.out],rfl,rfl,by omega,by omega,by omega,by omega,HN.out _ _ (by rw [<- HYY.out,hbit];rw [Int.add_mul];omega),HL.out,HB.out⟩
         case measure=>show (bt / 2).toNat < bt.toNat;omega
        ·skip
         go_wp2
         go_roundw
         case rel=>exact ⟨m,2 * q,2 * r,by omega,by rw [HH.out],rfl,rfl,by omega,by omega,by omega,by omega,HN.out _ _ (by rw [<- HYY.out,hbit];omega),HL.out,HB.out⟩
         case measure=>show (bt / 2).toNat < bt.toNat;omega)
theorem Jhi (s:Bool) (a:Nat->Int) (c:Int) (w:World) (ha:Digs a) (hc:c ≠ 0) (h1:-4611686018427387903 <= c) (h2:c <= 4611686018427387903) :
  Calls Tryz.prog 127 #[wv s a,J Y c] w fun e w'=>∃ n ok,e = .returned (.tuple #[J Y n,.bool ok])/\Hid (ok = !Fx.great (Fx.fl (sv s a) c)/\n = if ok then Fx.fl (sv s a) c else 0)/\Hid (Below w.heap.size w w'):=by
 unfold Fx.fl
 by_cases h:c < 0
 ·rw [if_pos h,<- Jg5]
  exact Jqa s a c w ha h h1
 ·rw [if_neg h]
  exact Jqi s a c w ha (by omega) h2
end
section
open Go.RowKit Ref
def RI (X r:Int) (m:Nat):Prop:=0 <= r/\r * r <= X/\X < (r + 2 ^ m) * (r + 2 ^ m)/\r + 2 ^ m <= 4611686018427387904
theorem Jqj {X:Int} (h0:0 <= X) (h:X < 4611686018427387904 * 4611686018427387904):RI X 0 62:=⟨by omega,by omega,by simpa using h,by decide⟩
theorem Jt8 {X r:Int} {m:Nat} (h:RI X r (m + 1)) (hc:(r + 2 ^ m) * (r + 2 ^ m) <= X):RI X (r + 2 ^ m) m:=by
 obtain ⟨h1,h2,h3,h4⟩:=h
 have hp:=Jck m
 rw [Int.pow_succ] at h3 h4
 have e:r + 2 ^ m + 2 ^ m = r + 2 ^ m * 2:=by omega
 exact ⟨by omega,hc,by rw [e];exact h3,by omega⟩
theorem Jr5 {X r:Int} {m:Nat} (h:RI X r (m + 1)) (hc:X < (r + 2 ^ m) * (r + 2 ^ m)):RI X r m:=by
 obtain ⟨h1,h2,h3,h4⟩:=h
 have hp:=Jck m
 rw [Int.pow_succ] at h4
 exact ⟨h1,h2,hc,by omega⟩
theorem Jtg {X r:Int} (h:RI X r 0):r = (Fx.isq X.toNat:Int)/\Fx.great (Fx.isq X.toNat:Int) = false:=by
 obtain ⟨h1,h2,h3,h4⟩:=h
 have e:=Fx.isq_of h1 h2 (by simpa using h3)
 refine ⟨e,?_⟩
 rw [<- e,Fx.not_great]
 simp at h4
 omega
theorem Jsg {X:Int} (h:4611686018427387904 * 4611686018427387904 <= X):Fx.great (Fx.isq X.toNat:Int) = true:=by
 have hX:(0:Int) <= X:=by omega
 obtain ⟨x,rfl⟩:=Int.eq_ofNat_of_zero_le hX
 simp only [Int.toNat_natCast]
 obtain ⟨_,b⟩:=Fx.isq_is x
 rw [Fx.great_iff]
 right
 generalize Fx.isq x = y at *
 have hc:4611686018427387904 * 4611686018427387904 < (y + 1) * (y + 1):=by omega
 apply Int.not_le.1
 intro hle
 have hy:y + 1 <= 4611686018427387904:=by omega
 have:=Nat.mul_le_mul hy hy
 omega
theorem Jh6 {a b:Int} (ha:a.natAbs <= 9223372036854775808) (hb:b.natAbs <= 9223372036854775808):(a * b).natAbs < 6277101735386680763835789423207666416102355444464034512896:=by
 rw [Int.natAbs_mul]
 exact Nat.lt_of_le_of_lt (Nat.mul_le_mul ha hb) (by decide)
theorem Jor (s:Bool) (a:Nat->Int) (w:World) (ha:Digs a) (h0:0 <= sv s a) :
  Calls Tryz.prog 117 #[wv s a] w fun e w'=>∃ n ok,e = .returned (.tuple #[J Y n,.bool ok])/\Hid (ok = !Fx.great (Fx.isq (sv s a).toNat:Int)/\n = if ok then (Fx.isq (sv s a).toNat:Int) else 0)/\Hid (Below w.heap.size w w'):=by
 have HA:Hid _:=ha
 have hX:(sv s a).natAbs < 6277101735386680763835789423207666416102355444464034512896:=by have:=ha.lt;have:=ha.nonneg;unfold sv;split <;> omega
 have HX:Hid _:=hX
 have H0:Hid _:=h0
 clear ha hX h0
 go_enter func117,ntmps117
 go_wp2_with (fail)
 refine (Jb0 4611686018427387904 _ (by omega) (by omega)).mono ?_
 rintro e w1 ⟨u1,d1,rfl,S1,B1⟩
 go_wp2_with (fail)
 refine (Jb0 4611686018427387904 _ (by omega) (by omega)).mono ?_
 rintro e w2 ⟨u2,d2,rfl,S2,B2⟩
 go_wp2_with (fail)
 refine (Jb6 u1 u2 d1 d2 _ S1.out.1 S2.out.1 (by rw [S1.out.2,S2.out.2];decide)).mono ?_
 rintro e w3 ⟨u3,d3,rfl,S3,B3⟩
 have B4:Hid (Below w.heap.size w w3):=Jr (Jr (Jr (Jg w _) B1.out) B2.out) B3.out
 have LA:Hid (RLies w3 w.heap.size s a):=((RLies.below (J4 w s a 58) B1.out (by simp)).below B2.out (by have:=B1.out.size;simp at this;omega)).below B3.out (by have:=B1.out.size;have:=B2.out.size;simp at *;omega)
 have S4:Hid (Digs d3/\sv u3 d3 = 4611686018427387904 * 4611686018427387904):=⟨S3.out.1,by rw [S3.out.2,S1.out.2,S2.out.2]⟩
 obtain ⟨a0,a1,a2,a3,a4,a5,a6,a7,a8⟩:=LA.out.cells
 have hs:w.heap.size < w3.heap.size:=LA.out.lt
 clear S1 S2 S3 B1 B2 B3
 go_wp2_with (fail)
 refine (Je1 s u3 a d3 _ HA.out S4.out.1 (by rw [S4.out.2];have:=HX.out;have:=H0.out;omega)).mono ?_
 rintro e w5 ⟨is,rfl,S5,B5⟩
 have LB:Hid (RLies w5 w.heap.size s a):=(LA.out.alloc _).below B5.out (by simp;omega)
 have B6:Hid (Below w.heap.size w w5):=Jr (B4.out.alloc B4.out.size _) B5.out
 have S6:Hid (is = true ↔ sv s a < 4611686018427387904 * 4611686018427387904):=by show _ ↔ _;rw [<- S4.out.2];exact S5.out
 clear LA B4 S4 S5 B5 a0 a1 a2 a3 a4 a5 a6 a7 a8 hs
 cases is
 ·go_wp2
  go_ret2
  have hg:=Jsg (X:=sv s a) (by have:=S6.out;simp at this;omega)
  exact ⟨0,false,rfl,⟨by rw [hg];rfl,rfl⟩,B6.out⟩
 ·have HR:Hid _:=Jqj H0.out (S6.out.1 rfl)
  clear S6
  go_wp2
  go_loopw [6,7] (fun rr bb wr=>∃ (m:Nat) (r:Int),m <= 62/\bb = J Y (Jdu m)/\rr = J Y r/\0 <= r/\r <= 4611686018427387904/\Hid (RI (sv s a) r m)/\Hid (RLies wr w.heap.size s a)/\Hid (Below w.heap.size w wr)) (fun _ bb _=>(intOf bb).toNat)
  case atStart=>exact ⟨62,0,Nat.le_refl _,rfl,rfl,by omega,by omega,HR.out,LB.out,B6.out⟩
  case round =>
   clear LB B6 HR
   obtain ⟨m,r,hm,rfl,rfl,hr0,hr1,HI,HL,HB⟩:=hrel
   match m,hm,HI with
   | 0,_,HI =>
    have hb0:Jdu 0 = 0:=rfl
    rw [hb0]
    have HE:Hid _:=Jtg HI.out
    go_wp2
    go_ret2
    exact ⟨r,true,rfl,⟨by rw [HE.out.2];rfl,by rw [HE.out.1];rfl⟩,HB.out⟩
   | m + 1,hm,HI =>
    have hb0:Jdu (m + 1) = 2 ^ m:=rfl
    rw [hb0]
    have HU:Hid (∀ b:Int,b = 2 ^ m->(r + b) * (r + b) <= sv s a->RI (sv s a) (r + b) m):=fun b hb h=>by subst hb;exact Jt8 HI.out h
    have HV:Hid (∀ b:Int,b = 2 ^ m->sv s a < (r + b) * (r + b)->RI (sv s a) r m):=fun b hb h=>by subst hb;exact Jr5 HI.out h
    have hb1:=Jck m
    have hb2:r + 2 ^ m <= 4611686018427387904:=by have:=HI.out.2.2.2;rw [Int.pow_succ] at this;omega
    have HH:Hid _:=Jhh m
    obtain ⟨bt,hbt⟩:∃ b,b = (2:Int) ^ m:=⟨_,rfl⟩
    rw [<- hbt] at HH hb1 hb2
    rw [<- hbt]
    have HU':Hid _:=HU.out bt hbt
    have HV':Hid _:=HV.out bt hbt
    clear hbt HU HV HI hb0
    go_wp2_with (fail)
    refine (Jb0 (r + bt) _ (by omega) (by omega)).mono ?_
    rintro e w1 ⟨u1,d1,rfl,S1,B1⟩
    have B2:Hid (Below w.heap.size w w1):=Jr HB.out B1.out
    have LA:Hid (RLies w1 w.heap.size s a):=HL.out.below B1.out HL.out.lt
    have hs:w.heap.size < w1.heap.size:=LA.out.lt
    clear B1 HB HL
    have HT:Hid _:=fun W=>Jb6 u1 u1 d1 d1 W S1.out.1 S1.out.1 (by rw [S1.out.2];exact Jh6 (by omega) (by omega))
    go_wp2_with (fail)
    obtain ⟨W,hW⟩:∃ W,W = w1.alloc (.cells #[.bool u1,J Y (d1 0),J Y (d1 1),J Y (d1 2),J Y (d1 3),J Y (d1 4),J Y (d1 5),J Y (d1 6),J Y (d1 7)] 58):=⟨_,rfl⟩
    obtain ⟨t8,ht8⟩:∃ t,t = w1.heap.size:=⟨_,rfl⟩
    have LW:Hid (RLies W w.heap.size s a):=by show RLies _ _ _ _;rw [hW];exact LA.out.alloc _
    have LT:Hid (RLies W t8 u1 d1):=by show RLies _ _ _ _;rw [hW,ht8];exact J4 _ _ _ _
    have BW:Hid (Below w.heap.size w W):=by show Below _ _ _;rw [hW];exact B2.out.alloc B2.out.size _
    rw [<- hW,<- ht8]
    clear hW ht8 LA B2 hs
    obtain ⟨a0,a1,a2,a3,a4,a5,a6,a7,a8⟩:=LW.out.drew.cells
    obtain ⟨t0,t1,t2,t3,t4,t5,t6,t7,t8⟩:=LT.out.drew.cells
    go_region_with (first
     | (go_at_call 62;refine (HT.out _).mono ?_;rintro e w4 ⟨u4,d4,rfl,S4,B4⟩;obtain ⟨x0,x1,x2,x3,x4,x5,x6,x7,x8⟩:=(LW.out.drew.below B4.out LW.out.drew.lt).cells)
     | (go_at_call 20;refine (Je1 s u4 a d4 _ HA.out S4.out.1 (by have h1:=HX.out;have h2:=H0.out;have h3:=S4.out.1.lt;have h4:=S4.out.1.nonneg;have h5:0 <= sv u4 d4:=(by rw [S4.out.2,S1.out.2];exact Int.mul_nonneg (by omega) (by omega));have h6:sv u4 d4 <= val d4 8:=(by unfold sv;split <;> omega);omega)).mono ?_;rintro e w5 ⟨c,rfl,S5,B5⟩))
    all_goals (
     have HC:Hid (c = true ↔ sv s a < (r + bt) * (r + bt)):=(by show _ ↔ _;rw [<- S1.out.2,<- S4.out.2];exact S5.out)
     have LF:Hid (RLies w5 w.heap.size s a):=(LW.out.drew.below B4.out LW.out.drew.lt).below B5.out (LW.out.drew.below B4.out LW.out.drew.lt).lt
     have BF:Hid (Below w.heap.size w w5):=Jr (Jr BW.out.drew B4.out) B5.out
     clear S1 S4 S5 B4 B5 LW LT BW a0 a1 a2 a3 a4 a5 a6 a7 a8 t0 t1 t2 t3 t4 t5 t6 t7 t8 x0 x1 x2 x3 x4 x5 x6 x7 x8
     cases c
     ·go_wp2
      go_roundw
      case rel=>exact ⟨m,r + bt,by omega,by rw [HH.out],rfl,by omega,by omega,HU'.out (by have:=HC.out;simp at this;omega),LF.out,BF.out⟩
      case measure=>show (bt / 2).toNat < bt.toNat;omega
     ·go_wp2
      go_roundw
      case rel=>exact ⟨m,r,by omega,by rw [HH.out],rfl,by omega,by omega,HV'.out (HC.out.1 rfl),LF.out,BF.out⟩
      case measure=>show (bt / 2).toNat < bt.toNat;omega)
end
section
open Go.RowKit Ref Fx
theorem Jff (zs:List Int) (b off cap:Nat) (w:World) (hlen:zs.length <= 4611686018427387904) (hc:∀ k,k < zs.length->w.cell? ⟨b,off + k,none⟩ = some (J Y (zs.getD k 0))) :
  Calls Tryz.prog 111 #[.slice (some ⟨b,off,none⟩) zs.length cap] w fun e w'=>e = .returned (.bool (zs.any great))/\w' = w:=by
 have HC:Hid _:=hc
 clear hc
 go_enter func111,ntmps111
 go_wp2
 go_loop [3] (fun i=>∃ k:Nat,k <= zs.length/\i = J Y k/\Hid ((zs.take k).any great = false)) (fun i=>zs.length - (intOf i).toNat)
 case atStart=>exact ⟨0,Nat.zero_le _,rfl,by simp [Hid]⟩
 case round =>
  obtain ⟨k,hk,rfl,HG⟩:=hrel
  by_cases hlt:k < zs.length
  ·have hcell:=HC.out k hlt
   have hs:=Jhl zs k hlt HG.out
   obtain ⟨z,hz⟩:∃ z,zs.getD k 0 = z:=⟨_,rfl⟩
   rw [hz] at hcell hs
   have HS:Hid _:=hs
   clear hs hz
   by_cases g1:z < -4611686018427387903
   ·have hany:zs.any great = true:=by
     have:(zs.take (k + 1)).any great = true:=by rw [HS.out];simp [great,g1]
     rw [List.any_eq_true] at this ⊢
     obtain ⟨x,hx,hg⟩:=this
     exact ⟨x,List.mem_of_mem_take hx,hg⟩
    go_wp2
    go_ret
    exact ⟨rfl,rfl⟩
   ·by_cases g2:4611686018427387903 < z
    ·have hany:zs.any great = true:=by
      have:(zs.take (k + 1)).any great = true:=by rw [HS.out];simp [great,g2]
      rw [List.any_eq_true] at this ⊢
      obtain ⟨x,hx,hg⟩:=this
      exact ⟨x,List.mem_of_mem_take hx,hg⟩
     go_wp2
     go_ret
     exact ⟨rfl,rfl⟩
    ·have hno:Hid ((zs.take (k + 1)).any great = false):=by
      show _ = false
      rw [HS.out];simp [great];omega
     go_wp2
     go_round
     case rel=>exact ⟨k + 1,by omega,by go_num,hno⟩
     case measure=>simp [intOf];omega
  ·have hany:zs.any great = false:=by
    have:=HG.out
    rwa [List.take_of_length_le (by omega)] at this
   go_wp2
   go_ret
   exact ⟨rfl,rfl⟩
theorem Jm0 (a:Option Addr) (cap:Nat) (w:World) :
  Calls Tryz.prog 111 #[.slice a 0 cap] w fun e w'=>e = .returned (.bool false)/\w' = w:=by
 go_enter func111,ntmps111
 go_wp2
 go_rounds 1
 go_ret
 exact ⟨rfl,rfl⟩
theorem Ji8 (a b:Int) (w:World):Calls Tryz.prog 111 #[.slice (some ⟨w.heap.size,0,none⟩) 2 2] (w.alloc (.cells #[J Y a,J Y b] 3)) fun e w'=>e = .returned (.bool (great a || great b))/\w' = w.alloc (.cells #[J Y a,J Y b] 3):=by
 have h:=Jff [a,b] w.heap.size 0 2 (w.alloc (.cells #[J Y a,J Y b] 3)) (by simp) (fun k hk=>by
  match k,hk with
  | 0,_=>simp
  | 1,_=>simp)
 simpa using h
theorem Job (a b c:Int) (w:World):Calls Tryz.prog 111 #[.slice (some ⟨w.heap.size,0,none⟩) 3 3] (w.alloc (.cells #[J Y a,J Y b,J Y c] 3)) fun e w'=>e = .returned (.bool (great a || (great b || great c)))/\w' = w.alloc (.cells #[J Y a,J Y b,J Y c] 3):=by
 have h:=Jff [a,b,c] w.heap.size 0 3 (w.alloc (.cells #[J Y a,J Y b,J Y c] 3)) (by simp) (fun k hk=>by
  match k,hk with
  | 0,_=>simp
  | 1,_=>simp
  | 2,_=>simp)
 simpa using h
def Ja0 (n:Int) (ok:Bool):Option Int:=if ok then Fx.told n else none
theorem Jaz (b off:Nat) (f:Bool) (n:Int) (ok:Bool) (w:World) (hc:w.cell? ⟨b,off,none⟩ = some (.bool f)) (hf:w.frozen? ⟨b,off,none⟩ = false) :
  Calls Tryz.prog 112 #[.pointer (some ⟨b,off,none⟩),J Y n,.bool ok] w fun e w'=>e = .returned (J Y ((Ja0 n ok).getD 0))/\Below w.heap.size (Jct ⟨b,off,none⟩ (Ja0 n ok) w) w':=by
 cases ok
 ·go_enter func112,ntmps112
  go_wp2
  go_ret
  exact ⟨rfl,by simp [Ja0,Jct];exact Below.refl _ _⟩
 ·by_cases h1:n < -4611686018427387903
  ·have hg:great n = true:=(great_iff n).2 (Or.inl h1)
   go_enter func112,ntmps112
   go_wp2
   go_ret
   exact ⟨by simp [Ja0,Fx.told,hg],by simp [Ja0,Fx.told,hg,Jct];exact Below.refl _ _⟩
  ·by_cases h2:4611686018427387903 < n
   ·have hg:great n = true:=(great_iff n).2 (Or.inr h2)
    go_enter func112,ntmps112
    go_wp2
    go_ret
    exact ⟨by simp [Ja0,Fx.told,hg],by simp [Ja0,Fx.told,hg,Jct];exact Below.refl _ _⟩
   ·have hg:great n = false:=(not_great n).2 (by omega)
    go_enter func112,ntmps112
    go_wp2
    go_ret
    exact ⟨by simp [Ja0,Fx.told,hg],by simp [Ja0,Fx.told,hg,Jct];exact Below.refl _ _⟩
theorem Ja4 {b off:Nat} {f:Bool} {o:Option Int} {n:Int} {ok:Bool} {w w1 w2:World} (ho:Ja0 n ok = o) (h1:Below w.heap.size w w1) (h2:Below w1.heap.size (Jct ⟨b,off,none⟩ (Ja0 n ok) w1) w2)
  (hc:w.cell? ⟨b,off,none⟩ = some (.bool f)) (hf:w.frozen? ⟨b,off,none⟩ = false) :
  ∃ v g,Ending.returned (J Y ((Ja0 n ok).getD 0)) = .returned (J Y v)/\Hid (Ja7 f o v g)/\Hid (After ⟨b,off,none⟩ g w w2):=by
 subst ho
 exact ⟨_,_,rfl,⟨rfl,rfl⟩,Jb9 (Jax h1 h2) hc hf⟩
theorem Jf0 (b off:Nat) (f:Bool) (x y:Int) (w:World) (hc:w.cell? ⟨b,off,none⟩ = some (.bool f)) (hf:w.frozen? ⟨b,off,none⟩ = false) :
  Calls Tryz.prog 83 #[.pointer (some ⟨b,off,none⟩),J Y x,J Y y] w fun e W'=>∃ v g,e = .returned (J Y v)/\Hid (Ja7 f (add x y) v g)/\Hid (After ⟨b,off,none⟩ g w W'):=by
 have hb:=Jg w (.cells #[J Y x,J Y y] 3)
 have hc':=Jh hb hc
 have hf':=Ji hb hc hf
 have C1:=Ji8 x y w
 cases hg:(great x || great y)
 ·have hadd:add x y = Fx.told (x + y):=by simp [add,hg]
  rw [hg] at C1
  have hx:-4611686018427387903 <= x/\x <= 4611686018427387903:=(not_great x).1 (by simp at hg;exact hg.1)
  have hy:-4611686018427387903 <= y/\y <= 4611686018427387903:=(not_great y).1 (by simp at hg;exact hg.2)
  have C2:Hid _:=Jaz b off f (x + y) true _ hc' hf'
  have K1:Hid _:=C1
  have HB:Hid _:=hb
  have HC:Hid _:=hc
  have HF:Hid _:=hf
  have HA:Hid _:=hadd
  clear C1 hb hc hf hc' hf' hg hadd
  go_enter func83,ntmps83
  go_wp2_with (fail)
  refine JA K1.out ?_
  rintro e w1 ⟨rfl,rfl⟩
  go_wp2_with (fail)
  refine JA C2.out ?_
  rintro e w2 ⟨rfl,hb2⟩
  go_wp2_with (fail)
  go_ret
  exact Ja4 (HA.out.symm) HB.out hb2 HC.out HF.out
 ·have hadd:add x y = none:=by simp only [add,hg,if_true]
  rw [hg] at C1
  have C2:Hid _:=Jaz b off f 0 false _ hc' hf'
  have K1:Hid _:=C1
  have HB:Hid _:=hb
  have HC:Hid _:=hc
  have HF:Hid _:=hf
  have HA:Hid _:=hadd
  clear C1 hb hc hf hc' hf' hg hadd
  go_enter func83,ntmps83
  go_wp2_with (fail)
  refine JA K1.out ?_
  rintro e w1 ⟨rfl,rfl⟩
  go_wp2_with (fail)
  refine JA C2.out ?_
  rintro e w2 ⟨rfl,hb2⟩
  go_wp2_with (fail)
  go_ret
  exact Ja4 (HA.out.symm) HB.out hb2 HC.out HF.out
theorem Jca (b off:Nat) (f:Bool) (x y:Int) (w:World) (hc:w.cell? ⟨b,off,none⟩ = some (.bool f)) (hf:w.frozen? ⟨b,off,none⟩ = false) :
  Calls Tryz.prog 57 #[.pointer (some ⟨b,off,none⟩),J Y x,J Y y] w fun e W'=>∃ v g,e = .returned (J Y v)/\Hid (Ja7 f (sub x y) v g)/\Hid (After ⟨b,off,none⟩ g w W'):=by
 have hb:=Jg w (.cells #[J Y x,J Y y] 3)
 have hc':=Jh hb hc
 have hf':=Ji hb hc hf
 have C1:=Ji8 x y w
 cases hg:(great x || great y)
 ·have hadd:sub x y = Fx.told (x - y):=by simp [sub,hg]
  rw [hg] at C1
  have hx:-4611686018427387903 <= x/\x <= 4611686018427387903:=(not_great x).1 (by simp at hg;exact hg.1)
  have hy:-4611686018427387903 <= y/\y <= 4611686018427387903:=(not_great y).1 (by simp at hg;exact hg.2)
  have C2:Hid _:=Jaz b off f (x - y) true _ hc' hf'
  have K1:Hid _:=C1
  have HB:Hid _:=hb
  have HC:Hid _:=hc
  have HF:Hid _:=hf
  have HA:Hid _:=hadd
  clear C1 hb hc hf hc' hf' hg hadd
  go_enter func57,ntmps57
  go_wp2_with (fail)
  refine JA K1.out ?_
  rintro e w1 ⟨rfl,rfl⟩
  go_wp2_with (fail)
  refine JA C2.out ?_
  rintro e w2 ⟨rfl,hb2⟩
  go_wp2_with (fail)
  go_ret
  exact Ja4 (HA.out.symm) HB.out hb2 HC.out HF.out
 ·have hadd:sub x y = none:=by simp only [sub,hg,if_true]
  rw [hg] at C1
  have C2:Hid _:=Jaz b off f 0 false _ hc' hf'
  have K1:Hid _:=C1
  have HB:Hid _:=hb
  have HC:Hid _:=hc
  have HF:Hid _:=hf
  have HA:Hid _:=hadd
  clear C1 hb hc hf hc' hf' hg hadd
  go_enter func57,ntmps57
  go_wp2_with (fail)
  refine JA K1.out ?_
  rintro e w1 ⟨rfl,rfl⟩
  go_wp2_with (fail)
  refine JA C2.out ?_
  rintro e w2 ⟨rfl,hb2⟩
  go_wp2_with (fail)
  go_ret
  exact Ja4 (HA.out.symm) HB.out hb2 HC.out HF.out
theorem Je0 {X:Int} {ok:Bool} {n:Int} (h:ok = !great X/\n = if ok then X else 0):Ja0 n ok = Fx.told X:=by
 obtain ⟨h1,h2⟩:=h
 unfold Ja0 Fx.told
 cases hg:great X
 ·have hok:ok = true:=by rw [h1,hg];rfl
  rw [hok] at h2 ⊢
  simp only [if_true] at h2
  subst h2
  simp [hg]
 ·have hok:ok = false:=by rw [h1,hg];rfl
  rw [hok]
  simp
theorem Jm6 (b off:Nat) (f:Bool) (x y z:Int) (w:World) (hc:w.cell? ⟨b,off,none⟩ = some (.bool f)) (hf:w.frozen? ⟨b,off,none⟩ = false) :
  Calls Tryz.prog 81 #[.pointer (some ⟨b,off,none⟩),J Y x,J Y y,J Y z] w fun e W'=>∃ v g,e = .returned (J Y v)/\Hid (Ja7 f (Ju x y z) v g)/\Hid (After ⟨b,off,none⟩ g w W'):=by
 have hb:=Jg w (.cells #[J Y x,J Y y,J Y z] 3)
 have C1:=Job x y z w
 have HB:Hid _:=hb
 have HC:Hid _:=hc
 have HF:Hid _:=hf
 have HN:Hid (∀ W,Below w.heap.size w W->Calls Tryz.prog 112 #[.pointer (some ⟨b,off,none⟩),J Y 0,.bool false] W fun e w'=>e = .returned (J Y ((Ja0 0 false).getD 0))/\Below W.heap.size (Jct ⟨b,off,none⟩ (Ja0 0 false) W) w'):=fun W h=>Jaz b off f 0 false W (Jh h hc) (Ji h hc hf)
 cases hg:(great x || (great y || great z))
 ·have hx:-4611686018427387903 <= x/\x <= 4611686018427387903:=(not_great x).1 (by simp at hg;exact hg.1)
  have hy:-4611686018427387903 <= y/\y <= 4611686018427387903:=(not_great y).1 (by simp at hg;exact hg.2.1)
  have hz:-4611686018427387903 <= z/\z <= 4611686018427387903:=(not_great z).1 (by simp at hg;exact hg.2.2)
  rw [hg] at C1
  have K1:Hid _:=C1
  by_cases z0:z = 0
  ·subst z0
   have HA:Hid _:=(by simp [Ju]:Ju x y 0 = none)
   clear C1 hb hc hf hg
   go_enter func81,ntmps81
   go_wp2_with (fail)
   refine JA K1.out ?_
   rintro e w1 ⟨rfl,rfl⟩
   go_wp2_with (fail)
   refine JA (HN.out _ HB.out) ?_
   rintro e w2 ⟨rfl,hb2⟩
   go_wp2_with (fail)
   go_ret
   exact Ja4 (HA.out.symm) HB.out hb2 HC.out HF.out
  ·have HA:Hid _:=(by simp only [Ju,z0,hg];rfl:Ju x y z = Fx.told (fl (x * y) z))
   clear C1 hb hc hf hg HN
   go_enter func81,ntmps81
   go_wp2_with (fail)
   refine JA K1.out ?_
   rintro e w1 ⟨rfl,rfl⟩
   go_wp2_with (fail)
   refine (Jb0 x _ (by omega) (by omega)).mono ?_
   rintro e w1 ⟨u1,d1,rfl,S1,B1⟩
   go_wp2_with (fail)
   refine (Jb0 y _ (by omega) (by omega)).mono ?_
   rintro e w2 ⟨u2,d2,rfl,S2,B2⟩
   go_wp2_with (fail)
   refine (Jb6 u1 u2 d1 d2 _ S1.out.1 S2.out.1 (by rw [S1.out.2,S2.out.2];exact Jh6 (by omega) (by omega))).mono ?_
   rintro e w3 ⟨u3,d3,rfl,S3,B3⟩
   go_wp2_with (fail)
   refine (Jhi u3 d3 z _ S3.out.1 z0 hz.1 hz.2).mono ?_
   rintro e w4 ⟨n,ok,rfl,S4,B4⟩
   have B5:Hid (Below w.heap.size w w4):=Jr (Jr (Jr (Jr HB.out B1.out) B2.out) B3.out) B4.out
   have S5:Hid _:=Je0 S4.out
   rw [S3.out.2,S1.out.2,S2.out.2] at S5
   clear S1 S2 S3 S4 B1 B2 B3 B4 K1
   go_wp2_with (fail)
   refine (Jaz b off f n ok _ (Jh B5.out HC.out) (Ji B5.out HC.out HF.out)).mono ?_
   rintro e w6 ⟨rfl,hb2⟩
   go_wp2_with (fail)
   go_ret
   exact Ja4 (S5.out.trans HA.out.symm) B5.out hb2 HC.out HF.out
 ·have HA:Hid _:=(by simp only [Ju,hg];simp:Ju x y z = none)
  rw [hg] at C1
  have K1:Hid _:=C1
  clear C1 hb hc hf hg
  go_enter func81,ntmps81
  go_wp2_with (fail)
  refine JA K1.out ?_
  rintro e w1 ⟨rfl,rfl⟩
  go_wp2_with (fail)
  refine JA (HN.out _ HB.out) ?_
  rintro e w2 ⟨rfl,hb2⟩
  go_wp2_with (fail)
  go_ret
  exact Ja4 (HA.out.symm) HB.out hb2 HC.out HF.out
theorem Jou (x y:Int):Ju x y 4294967296 = mul x y:=by
 have h:great 4294967296 = false:=by decide
 have e:fl (x * y) 4294967296 = x * y / 4294967296:=by unfold fl;rw [if_neg (by omega)]
 unfold Ju mul
 rw [if_neg (by omega:¬ (4294967296:Int) = 0),h,e,Bool.or_false]
theorem Jej (b off:Nat) (f:Bool) (x y:Int) (w:World) (hc:w.cell? ⟨b,off,none⟩ = some (.bool f)) (hf:w.frozen? ⟨b,off,none⟩ = false) :
  Calls Tryz.prog 92 #[.pointer (some ⟨b,off,none⟩),J Y x,J Y y] w fun e W'=>∃ v g,e = .returned (J Y v)/\Hid (Ja7 f (Ju x 4294967296 y) v g)/\Hid (After ⟨b,off,none⟩ g w W'):=by
 have C:Hid _:=Jm6 b off f x 4294967296 y w hc hf
 clear hc hf
 go_enter func92,ntmps92
 go_wp2_with (fail)
 refine JA C.out ?_
 rintro e w1 ⟨v,g,rfl,S,A⟩
 go_wp2_with (fail)
 go_ret
 exact ⟨v,g,rfl,S,A⟩
end
section
open Go.RowKit Ref Fx
theorem Jcj (W:World):Calls Tryz.prog 56 #[] W fun e W'=>e = .returned (.pointer (some ⟨W.heap.size,0,none⟩))/\W' = W.alloc (.cells #[.bool false] 53):=by
 go_enter func56,ntmps56
 go_wp2
 go_ret
 exact ⟨rfl,rfl⟩
theorem Jdj (b off o:Nat) (f g:Bool) (W:World) (hc:W.cell? ⟨b,off,none⟩ = some (.bool f)) (hf:W.frozen? ⟨b,off,none⟩ = false) (ho:W.cell? ⟨o,0,none⟩ = some (.bool g)) (hne:o ≠ b) :
  Calls Tryz.prog 58 #[.pointer (some ⟨b,off,none⟩),.pointer (some ⟨o,0,none⟩)] W fun e W'=>e = .returned (.bool (!g))/\Hid (After ⟨b,off,none⟩ (f || g) W W'):=by
 have n1:b ≠ o:=Ne.symm hne
 have fin:∀ x:Bool,After ⟨b,off,none⟩ x W (W.setCell ⟨b,off,none⟩ (.bool x)):=fun x=>((Leaves.refl ⟨b,off,none⟩ W).own _).done (by simp [go_sem,hc]) (by simp [go_sem,hf])
 have HF:Hid _:=fin
 clear fin
 cases f
 ·go_enter func58,ntmps58
  go_wp2
  go_ret
  exact ⟨rfl,HF.out _⟩
 ·go_enter func58,ntmps58
  go_wp2
  go_ret
  exact ⟨rfl,HF.out _⟩
structure Ho (W V:World) (p:Addr) (po:Nat) (f g:Bool) (l:List (Addr × Value)):Prop where
 leaves:Leaves p W V
 flag:V.cell? p = some (.bool f)
 flagf:V.frozen? p = false
 own:V.cell? ⟨po,0,none⟩ = some (.bool g)
 ownf:V.frozen? ⟨po,0,none⟩ = false
 fix:∀ c ∈ l,V.cell? c.1 = some c.2/\V.frozen? c.1 = false
 far:∀ c ∈ l,c.1.block ≠ po
 hp:p.block < W.heap.size
 ho:W.heap.size <= po
theorem Ho.after {W V V':World} {p:Addr} {po:Nat} {f g g':Bool} {l:List (Addr × Value)} (h:Ho W V p po f g l) (A:After ⟨po,0,none⟩ g' V V'):Ho W V' p po f g' l:=
 ⟨h.leaves.after A h.ho,A.cellOf h.flag (by have:=h.hp;have:=h.ho;show p.block ≠ po;omega),A.frozenOf h.flag h.flagf (by have:=h.hp;have:=h.ho;show p.block ≠ po;omega),A.cell,A.frozen,fun c hc=>⟨A.cellOf (h.fix c hc).1 (h.far c hc),A.frozenOf (h.fix c hc).1 (h.fix c hc).2 (h.far c hc)⟩,h.far,h.hp,h.ho⟩
theorem Ho.alloc {W V:World} {p:Addr} {po:Nat} {f g:Bool} {l:List (Addr × Value)} (h:Ho W V p po f g l) (o:Obj):Ho W (V.alloc o) p po f g l:=by
 have hb:=Jg V o
 exact ⟨h.leaves.alloc o,Jh hb h.flag,Ji hb h.flag h.flagf,Jh hb h.own,Ji hb h.own h.ownf,fun c hc=>⟨Jh hb (h.fix c hc).1,Ji hb (h.fix c hc).1 (h.fix c hc).2⟩,h.far,h.hp,h.ho⟩
theorem Ho.drew {W V:World} {p:Addr} {po:Nat} {f g:Bool} {l:List (Addr × Value)} (h:Ho W V p po f g l):Ho W V.drew p po f g l:=⟨h.leaves.drew,h.flag,h.flagf,h.own,h.ownf,h.fix,h.far,h.hp,h.ho⟩
theorem Jgo {f g1 g2 g3:Bool} {a b c:Option Int} {x y z:Int} (h1:Ja7 false a x g1) (h2:Ja7 g1 b y g2) (h3:Ja7 g2 c z g3):Jc3 f a b c (cond g3 0 x) (cond g3 0 y) (cond g3 0 z) (f || g3):=by
 obtain ⟨rfl,rfl⟩:=h1
 obtain ⟨rfl,rfl⟩:=h2
 obtain ⟨rfl,rfl⟩:=h3
 simp only [Bool.false_or]
 exact ⟨rfl,rfl,rfl,rfl⟩
end
section
open Go.RowKit Ref Fx
theorem Jof {l m:List Int} (k:Nat) (hl:l.length <= 8) (h:l.any great = false) (h':m.any great = false):(Jad (l.take k) (m.take k)).natAbs < 3138550867693340381917894711603833208051177722232017256448:=by
 have:=Jdb (l.take k) (m.take k) (Jj5 k h) (Jj5 k h')
 have e:(l.take k).length <= 8:=by simp;omega
 have:=Nat.mul_le_mul_right 21267647932558653957237540927630737409 e
 omega
theorem Jqp {a b:Int} (ha:great a = false) (hb:great b = false):(a * b).natAbs < 3138550867693340381917894711603833208051177722232017256448:=by
 have h1:=(not_great a).1 ha
 have h2:=(not_great b).1 hb
 rw [Int.natAbs_mul]
 exact Nat.lt_of_le_of_lt (Nat.mul_le_mul (show a.natAbs <= 4611686018427387903 by omega) (show b.natAbs <= 4611686018427387903 by omega)) (by decide)
theorem Jrq (zs ys:List Int) (ba oa bb ob cap cap':Nat) (w:World) (hl:zs.length <= 8) (he:zs.length = ys.length) (hg:zs.any great = false) (hg':ys.any great = false)
  (hz:∀ k,k < zs.length->w.cell? ⟨ba,oa + k,none⟩ = some (J Y (zs.getD k 0))) (hy:∀ k,k < ys.length->w.cell? ⟨bb,ob + k,none⟩ = some (J Y (ys.getD k 0))) :
  Calls Tryz.prog 118 #[.slice (some ⟨ba,oa,none⟩) zs.length cap,.slice (some ⟨bb,ob,none⟩) ys.length cap'] w fun e w'=>∃ s d,e = .returned (wv s d)/\Hid (Digs d/\sv s d = Jad zs ys)/\Hid (Below w.heap.size w w'):=by
 have HZ:Hid _:=hz
 have HY:Hid _:=hy
 have HG:Hid (zs.any great = false/\ys.any great = false):=⟨hg,hg'⟩
 have HE:Hid _:=he
 have hly:ys.length <= 8:=by omega
 clear hz hy hg hg' he
 go_enter func118,ntmps118
 go_wp2
 go_loopw [6] (fun i wr=>∃ (k:Nat) (s:Bool) (d:Nat->Int),k <= zs.length/\i = J Y k/\Hid (Digs d/\sv s d = Jad (zs.take k) (ys.take k))/\Hid (RLies wr w.heap.size false (fun _=>0))/\Hid (RLies wr (w.heap.size + 1) s d)/\Hid (Below w.heap.size w wr)) (fun i _=>zs.length - (intOf i).toNat)
 case atStart=>exact ⟨0,false,fun _=>0,Nat.zero_le _,rfl,⟨fun j _=>by simp,by simp [sv,val,Jad]⟩,RLies.alloc (J4 w false (fun _=>0) 58) _,by show RLies _ _ _ _;have:=J4 (w.alloc (.cells #[.bool false,J Y 0,J Y 0,J Y 0,J Y 0,J Y 0,J Y 0,J Y 0,J Y 0] 58)) false (fun _=>0) 58;simpa only [World.size_alloc] using this,(Jg w _).alloc (by simp) _⟩
 case round =>
  obtain ⟨k,s,d,hk,rfl,HD,HR,HO,HB⟩:=hrel
  by_cases hlt:k < zs.length
  ·have hlt2:k < ys.length:=by have:=HE.out;omega
   have c1:=Jh HB.out (HZ.out k hlt)
   have c2:=Jh HB.out (HY.out k hlt2)
   have g1:=Jcz HG.out.1 hlt
   have g2:=Jcz HG.out.2 hlt2
   have HS:Hid _:=Jd5 k zs ys hlt hlt2
   have HP:Hid _:=Jqp g1 g2
   have HQ:Hid _:=Jof k hl HG.out.1 HG.out.2
   obtain ⟨z,ez⟩:∃ z,zs.getD k 0 = z:=⟨_,rfl⟩
   obtain ⟨y,ey⟩:∃ y,ys.getD k 0 = y:=⟨_,rfl⟩
   rw [ez] at c1 g1 HS HP
   rw [ey] at c2 g2 HS HP
   have bz:=(not_great z).1 g1
   have bY:=(not_great y).1 g2
   clear ez ey g1 g2
   have i0:(0:Int) <= (k:Int):=by omega
   have i1:(k:Int) < (zs.length:Int):=by omega
   have i2:(k:Int) < (ys.length:Int):=by omega
   have HB:Hid (Below w.heap.size w wr.drew):=HB.out.drew
   have HO:Hid (RLies wr.drew (w.heap.size + 1) s d):=HO.out.drew
   have HR:Hid (RLies wr.drew w.heap.size false (fun _=>0)):=HR.out.drew
   obtain ⟨a0,a1,a2,a3,a4,a5,a6,a7,a8⟩:=HO.out.cells
   obtain ⟨f0,f1,f2,f3,f4,f5,f6,f7,f8⟩:=HO.out.frees
   have c1:wr.drew.cell? ⟨ba,oa + k,none⟩ = some (J Y z):=c1
   have c2:wr.drew.cell? ⟨bb,ob + k,none⟩ = some (J Y y):=c2
   have HA:True:=trivial
   go_wp2
   go_region_with (first
    | (go_at_call 21;refine (Jb0 _ _ (by omega) (by omega)).mono ?_;rintro e w1 ⟨u,e1,rfl,S,B⟩;have HA:=And.intro HA S.out;have f0:=Ji B.out a0 f0;have a0:=Jh B.out a0;have f1:=Ji B.out a1 f1;have a1:=Jh B.out a1;have f2:=Ji B.out a2 f2;have a2:=Jh B.out a2;have f3:=Ji B.out a3 f3;have a3:=Jh B.out a3;have f4:=Ji B.out a4 f4;have a4:=Jh B.out a4;have f5:=Ji B.out a5 f5;have a5:=Jh B.out a5;have f6:=Ji B.out a6 f6;have a6:=Jh B.out a6;have f7:=Ji B.out a7 f7;have a7:=Jh B.out a7;have f8:=Ji B.out a8 f8;have a8:=Jh B.out a8;have c1:=Jh B.out c1;have c2:=Jh B.out c2;have HO:Hid _:=RLies.below HO.out B.out HO.out.lt;have HR:Hid _:=RLies.below HR.out B.out HR.out.lt;have HB:Hid _:=Jr HB.out B.out)
    | (go_at_call 62;refine (Jb6 _ _ _ _ _ HA.1.2.1 HA.2.1 (by rw [HA.1.2.2,HA.2.2];exact Nat.lt_trans HP.out (by decide))).mono ?_;rintro e w1 ⟨u,e1,rfl,S,B⟩;have HT:Hid (Digs e1/\sv u e1 = z * y):=⟨S.out.1,by rw [S.out.2,HA.1.2.2,HA.2.2]⟩;have f0:=Ji B.out a0 f0;have a0:=Jh B.out a0;have f1:=Ji B.out a1 f1;have a1:=Jh B.out a1;have f2:=Ji B.out a2 f2;have a2:=Jh B.out a2;have f3:=Ji B.out a3 f3;have a3:=Jh B.out a3;have f4:=Ji B.out a4 f4;have a4:=Jh B.out a4;have f5:=Ji B.out a5 f5;have a5:=Jh B.out a5;have f6:=Ji B.out a6 f6;have a6:=Jh B.out a6;have f7:=Ji B.out a7 f7;have a7:=Jh B.out a7;have f8:=Ji B.out a8 f8;have a8:=Jh B.out a8;have c1:=Jh B.out c1;have c2:=Jh B.out c2;have HO:Hid _:=RLies.below HO.out B.out HO.out.lt;have HR:Hid _:=RLies.below HR.out B.out HR.out.lt;have HB:Hid _:=Jr HB.out B.out)
    | (go_at_call 17;refine (Jdl _ _ _ _ _ HD.out.1 HT.out.1 (by rw [HD.out.2,HT.out.2];have h1:=HP.out;have h2:=HQ.out;omega)).mono ?_;rintro e w1 ⟨u,e1,rfl,S,B⟩;have HU:Hid (Digs e1/\sv u e1 = Jad (zs.take (k + 1)) (ys.take (k + 1))):=⟨S.out.1,by rw [S.out.2,HD.out.2,HT.out.2,HS.out]⟩;have f0:=Ji B.out a0 f0;have a0:=Jh B.out a0;have f1:=Ji B.out a1 f1;have a1:=Jh B.out a1;have f2:=Ji B.out a2 f2;have a2:=Jh B.out a2;have f3:=Ji B.out a3 f3;have a3:=Jh B.out a3;have f4:=Ji B.out a4 f4;have a4:=Jh B.out a4;have f5:=Ji B.out a5 f5;have a5:=Jh B.out a5;have f6:=Ji B.out a6 f6;have a6:=Jh B.out a6;have f7:=Ji B.out a7 f7;have a7:=Jh B.out a7;have f8:=Ji B.out a8 f8;have a8:=Jh B.out a8;have c1:=Jh B.out c1;have c2:=Jh B.out c2;have HO:Hid _:=RLies.below HO.out B.out HO.out.lt;have HR:Hid _:=RLies.below HR.out B.out HR.out.lt;have HB:Hid _:=Jr HB.out B.out))
   all_goals (
    have X1:Hid _:=Jf6 (s:=u) (d:=e1) HO.out
    have X2:Hid _:=RLies.nine (s:=u) (d:=e1) (b:=w.heap.size + 1) HR.out (by omega)
    have X3:Hid _:=Jay (b:=w.heap.size + 1) (v0:=.bool u) (v1:=J Y (e1 0)) (v2:=J Y (e1 1)) (v3:=J Y (e1 2)) (v4:=J Y (e1 3)) (v5:=J Y (e1 4)) (v6:=J Y (e1 5)) (v7:=J Y (e1 6)) (v8:=J Y (e1 7)) HB.out (by omega)
    clear a0 f0 a1 f1 a2 f2 a3 f3 a4 f4 a5 f5 a6 f6 a7 f7 a8 f8 HO HR HB HA HT HP HQ
    go_wp2
    go_roundw
    case rel=>exact ⟨k + 1,u,e1,by omega,by go_num,HU.out,X2.out,X1.out,X3.out⟩
    case measure=>simp [intOf];omega)
  ·have hk8:(zs.length:Int) <= (k:Int):=by omega
   have HV:Hid (Digs d/\sv s d = Jad zs ys):=by
    obtain ⟨d1,d2⟩:=HD.out
    have e:k = zs.length:=by omega
    rw [e,List.take_length,HE.out,List.take_length] at d2
    exact ⟨d1,d2⟩
   obtain ⟨c0,c1,c2,c3,c4,c5,c6,c7,c8⟩:=HO.out.cells
   obtain ⟨r0,r1,r2,r3,r4,r5,r6,r7,r8⟩:=HR.out.cells
   obtain ⟨f0,f1,f2,f3,f4,f5,f6,f7,f8⟩:=HR.out.frees
   clear HD HZ HY HG
   go_wp2
   try simp only [Exit.inBlock,Exit.then]
   refine bodyPost_ret (by simp [results,results118,go_sem,r0,r1,r2,r3,r4,r5,r6,r7,r8];try rfl) rfl ?_
   exact ⟨_,d,rfl,HV.out,Jay HB.out (by omega)⟩
end
end Go.Proofs.YteebbpioffdncaaGreat
