/- The reference's numbers by digits (tumblerref01): products. -/
import Derived.Test.YtablgiflakncfaaGreatBBW14
import Derived.Deep.RegionHeld3
import Derived.Test.YtablgiflakncfaaGreatBBW13
set_option maxHeartbeats 2000000
set_option linter.unusedVariables false
namespace Go.Proofs.YtablgiflakncfaaGreat
section
open Go.RowKit Ref
theorem val_succ (d:Nat->Int) (n:Nat):val d (n + 1) = val d n + d n * 16777216 ^ n:=rfl
theorem val_split (b:Nat->Int) (n:Nat):∀ m,val b (n + m) = val b n + 16777216 ^ n * val (fun j=>b (n + j)) m
 | 0=>by simp [val]
 | m + 1=>by
  rw [<- Nat.add_assoc]
  simp only [val]
  rw [val_split b n m,Int.pow_add]
  grind
theorem times_zero {a b d:Nat->Int} {k:Nat} (h:∃ m:Int,val d 8 + m * 16777216 ^ 8 = val a k * val b 8) (hz:a k = 0):∃ m:Int,val d 8 + m * 16777216 ^ 8 = val a (k + 1) * val b 8:=by
 obtain ⟨m,h⟩:=h
 exact ⟨m,by rw [val_succ a k,hz,Int.zero_mul,Int.add_zero];exact h⟩
theorem times_next {b d e:Nat->Int} {k j:Nat} {x c y o:Int} (hb:0 <= y/\y < 16777216) (hx:0 <= x/\x < 16777216) (ho:0 <= o/\o < 16777216) (he:Digs e) (hkj:k + j < 8) (hc:0 <= c/\c < 16777216) (ey:y = b j) (eo:o = e (k + j))
  (h:val e 8 + c * 16777216 ^ (k + j) = val d 8 + x * val b j * 16777216 ^ k) :
  Digs (put e (k + j) ((o + x * y + c) % 16777216))/\0 <= (o + x * y + c) / 16777216/\(o + x * y + c) / 16777216 < 16777216 /\
  val (put e (k + j) ((o + x * y + c) % 16777216)) 8 + (o + x * y + c) / 16777216 * 16777216 ^ (k + (j + 1)) = val d 8 + x * val b (j + 1) * 16777216 ^ k:=by
 have hp0:0 <= x * y:=Int.mul_nonneg hx.1 hb.1
 have hp1:x * y <= 16777215 * 16777215:=Int.mul_le_mul (by omega) (by omega) hb.1 (by omega)
 refine ⟨he.put _ ⟨Int.emod_nonneg _ (by omega),Int.emod_lt_of_pos _ (by omega)⟩,by omega,by omega,?_⟩
 rw [val_put _ _ _ 8 hkj,<- eo,<- Nat.add_assoc,Int.pow_succ]
 have:=mul_step (o:=o) (x:=x) (y:=y) h
 rw [this,val_succ b j,<- ey,Int.pow_add]
 generalize val d 8 = D8 at *
 grind
theorem times_round {a b d e:Nat->Int} {k j:Nat} {c:Int} (h:∃ m:Int,val d 8 + m * 16777216 ^ 8 = val a k * val b 8) (hj:k + j = 8)
  (hi:val e 8 + c * 16777216 ^ (k + j) = val d 8 + a k * val b j * 16777216 ^ k):∃ m:Int,val e 8 + m * 16777216 ^ 8 = val a (k + 1) * val b 8:=by
 obtain ⟨m,h⟩:=h
 have hs:=val_split b j k
 rw [Nat.add_comm j k,hj] at hs
 have hp:(16777216:Int) ^ 8 = 16777216 ^ j * 16777216 ^ k:=by rw [<- Int.pow_add,Nat.add_comm j k,hj]
 rw [hj] at hi
 refine ⟨c + m + a k * val (fun i=>b (j + i)) k,?_⟩
 rw [val_succ a k]
 rw [hp] at h hi ⊢
 clear hp
 generalize val (fun i=>b (j + i)) k = R at *
 generalize val b 8 = B8 at *
 generalize val d 8 = D8 at *
 generalize val e 8 = E8 at *
 generalize (16777216:Int) ^ j = X at *
 generalize (16777216:Int) ^ k = Y at *
 grind
theorem times_done {a b d:Nat->Int} {s t:Bool} (ha:Digs a) (hb:Digs b) (hd:Digs d) (h:∃ m:Int,val d 8 + m * 16777216 ^ 8 = val a 8 * val b 8) (hfit:(sv s a * sv t b).natAbs < 6277101735386680763835789423207666416102355444464034512896) :
  sv (s != t) d = sv s a * sv t b:=by
 obtain ⟨m,h⟩:=h
 have h1:(16777216:Int) ^ 8 = 6277101735386680763835789423207666416102355444464034512896:=by decide
 rw [h1] at h
 have d0:=hd.nonneg
 have d1:=hd.lt
 have hp:0 <= val a 8 * val b 8:=Int.mul_nonneg ha.nonneg hb.nonneg
 have e:(sv s a * sv t b).natAbs = (val a 8 * val b 8).natAbs:=by unfold sv;cases s <;> cases t <;> simp [Int.natAbs_mul]
 rw [e] at hfit
 have hv:val d 8 = val a 8 * val b 8:=by omega
 unfold sv
 rw [hv]
 cases s <;> cases t <;> simp [Int.neg_mul,Int.mul_neg]
theorem RLies.sign {W:World} {b:Nat} {s:Bool} {d:Nat->Int} (h:RLies W b s d) (t:Bool):RLies (W.setCell ⟨b,0,none⟩ (.bool t)) b t d:=by
 have hn:=h.neg
 refine ⟨by simp [go_sem,hn],fun k hk=>?_,fun k hk=>?_⟩
 ·rw [<- h.dig k hk];simp [go_sem]
 ·rw [<- h.free k hk];simp [go_sem]
theorem times_any (s t:Bool) (a b:Nat->Int) (w:World) (ha:Digs a) (hb:Digs b) (hfit:(sv s a * sv t b).natAbs < 6277101735386680763835789423207666416102355444464034512896) :
  Calls Tryz.prog 53 #[wv s a,wv t b] w fun e w'=>∃ u d,e = .returned (wv u d)/\Hid (Digs d/\sv u d = sv s a * sv t b)/\Hid (Below w.heap.size w w'):=by
 have HE:Hid _:=fun d (hd:Digs d) h=>times_done (s:=s) (t:=t) ha hb hd h hfit
 have HA:Hid _:=ha
 have HC:Hid _:=hb
 clear ha hb hfit
 go_enter Tryz.func53,Tryz.ntmps53
 go_wp2
 go_loopw [6] (fun i wr=>∃ (k:Nat) (d:Nat->Int),k <= 8/\i = .int .i64 k/\Hid (Digs d/\∃ m:Int,val d 8 + m * 16777216 ^ 8 = val a k * val b 8)/\Hid (RLies wr w.heap.size s a)/\Hid (RLies wr (w.heap.size + 1) t b)/\Hid (RLies wr (w.heap.size + 1 + 1) false (fun _=>0))/\Hid (RLies wr (w.heap.size + 1 + 1 + 1) false d)/\Hid (Below w.heap.size w wr)) (fun i _=>8 - (intOf i).toNat)
 case atStart =>
  exact ⟨0,fun _=>0,Nat.zero_le _,rfl,⟨fun j _=>by simp,0,by simp [val]⟩,(RLies.alloc (RLies.alloc (RLies.alloc (by show RLies _ _ _ _;have:=lies_new w s a 94;simpa only [World.size_alloc] using this) _) _) _),(RLies.alloc (RLies.alloc (by show RLies _ _ _ _;have:=lies_new (w.alloc (.cells #[.bool s,.int .i64 (a 0),.int .i64 (a 1),.int .i64 (a 2),.int .i64 (a 3),.int .i64 (a 4),.int .i64 (a 5),.int .i64 (a 6),.int .i64 (a 7)] 94)) t b 94;simpa only [World.size_alloc] using this) _) _),(RLies.alloc (by show RLies _ _ _ _;have:=lies_new ((w.alloc (.cells #[.bool s,.int .i64 (a 0),.int .i64 (a 1),.int .i64 (a 2),.int .i64 (a 3),.int .i64 (a 4),.int .i64 (a 5),.int .i64 (a 6),.int .i64 (a 7)] 94)).alloc (.cells #[.bool t,.int .i64 (b 0),.int .i64 (b 1),.int .i64 (b 2),.int .i64 (b 3),.int .i64 (b 4),.int .i64 (b 5),.int .i64 (b 6),.int .i64 (b 7)] 94)) false (fun _=>0) 94;simpa only [World.size_alloc] using this) _),(by show RLies _ _ _ _;have:=lies_new (((w.alloc (.cells #[.bool s,.int .i64 (a 0),.int .i64 (a 1),.int .i64 (a 2),.int .i64 (a 3),.int .i64 (a 4),.int .i64 (a 5),.int .i64 (a 6),.int .i64 (a 7)] 94)).alloc (.cells #[.bool t,.int .i64 (b 0),.int .i64 (b 1),.int .i64 (b 2),.int .i64 (b 3),.int .i64 (b 4),.int .i64 (b 5),.int .i64 (b 6),.int .i64 (b 7)] 94)).alloc (.cells #[.bool false,.int .i64 0,.int .i64 0,.int .i64 0,.int .i64 0,.int .i64 0,.int .i64 0,.int .i64 0,.int .i64 0] 94)) false (fun _=>0) 94;simpa only [World.size_alloc] using this),((((new_after w _).alloc (by simp) _).alloc (by simp;omega) _).alloc (by simp;omega) _)⟩
 case round =>
  obtain ⟨k,d,hk,rfl,HD,HL,HR,HZ,HO,HB⟩:=hrel
  by_cases hlt:k < 8
  ·have e1:=HL.out.dig k hlt
   have i0:(0:Int) <= (k:Int):=by omega
   have i1:(k:Int) < 8:=by omega
   have b1:=HA.out k hlt
   obtain ⟨x,hx⟩:∃ x,x = a k:=⟨_,rfl⟩
   rw [<- hx] at e1 b1
   by_cases hz:x = 0
   ·have HM:Hid _:=times_zero HD.out.2 (by rw [<- hx,hz])
    clear hx
    go_wp2
    go_roundw
    case rel=>exact ⟨k + 1,d,by omega,by go_num,⟨HD.out.1,HM.out⟩,HL.out,HR.out,HZ.out,HO.out,HB.out⟩
    case measure=>simp [intOf];omega
   ·have HX:Hid _:=hx
    clear hx
    go_wp2
    go_loopw [7,8] (fun cc i wr=>∃ (j:Nat) (e:Nat->Int) (c:Int),k + j <= 8/\i = .int .i64 j/\cc = .int .i64 c/\0 <= c/\c < 16777216/\Hid (Digs e/\val e 8 + c * 16777216 ^ (k + j) = val d 8 + x * val b j * 16777216 ^ k)/\Hid (RLies wr w.heap.size s a)/\Hid (RLies wr (w.heap.size + 1) t b)/\Hid (RLies wr (w.heap.size + 1 + 1) false (fun _=>0))/\Hid (RLies wr (w.heap.size + 1 + 1 + 1) false e)/\Hid (Below w.heap.size w wr)) (fun _ i _=>8 - (intOf i).toNat)
    case atStart=>exact ⟨0,d,0,by omega,rfl,rfl,by omega,by omega,⟨HD.out.1,by simp [val]⟩,HL.out,HR.out,HZ.out,HO.out,HB.out⟩
    case round =>
     clear HL HR HZ HO HB e1
     obtain ⟨j,e,c,hj,rfl,rfl,hc0,hc1,HI,HL,HR,HZ,HO,HB⟩:=hrel
     by_cases hjl:k + j < 8
     ·have e1:=HL.out.dig k hlt
      rw [<- HX.out] at e1
      have e2:=HR.out.dig j (by omega)
      have e3:=HO.out.dig (k + j) hjl
      have e4:=HO.out.free (1 + (k + j)) (by omega)
      have j0:(0:Int) <= (j:Int):=by omega
      have j1:(j:Int) < 8:=by omega
      have k0:(0:Int) <= (k:Int) + (j:Int):=by omega
      have k1:(k:Int) + (j:Int) < 8:=by omega
      have b2:=HC.out j (by omega)
      have b3:=HI.out.1 (k + j) hjl
      obtain ⟨y,hy⟩:∃ y,y = b j:=⟨_,rfl⟩
      obtain ⟨o,ho⟩:∃ o,o = e (k + j):=⟨_,rfl⟩
      rw [<- hy] at e2 b2
      rw [<- ho] at e3 b3
      have HN:Hid _:=times_next b2 b1 b3 HI.out.1 hjl ⟨hc0,hc1⟩ hy ho HI.out.2
      have hp0:0 <= x * y:=Int.mul_nonneg b1.1 b2.1
      have hp1:x * y <= 16777215 * 16777215:=Int.mul_le_mul (by omega) (by omega) b2.1 (by omega)
      clear hy ho
      go_wp2
      go_region
      all_goals go_wp2
      all_goals go_roundw
      all_goals try (case rel=>obtain ⟨n1,n2,n3,n4⟩:=HN.out;exact ⟨j + 1,put e (k + j) ((o + x * y + c) % 16777216),(o + x * y + c) / 16777216,by omega,by go_num,rfl,n2,n3,⟨n1,n4⟩,(HL.out.otherAt (by omega) _).drew,(HR.out.otherAt (by omega) _).drew,(HZ.out.otherAt (by omega) _).drew,(HO.out.put hjl _).drew,(setAt HB.out (by omega) _).drew⟩)
      all_goals try (case measure=>simp [intOf];omega)
     ·have k8:¬ (k:Int) + (j:Int) < 8:=by omega
      have HM:Hid _:=times_round (e:=e) (c:=c) HD.out.2 (by omega:k + j = 8) (by rw [<- HX.out];exact HI.out.2)
      go_wp2
      go_roundw
      case rel=>exact ⟨k + 1,e,by omega,by go_num,⟨HI.out.1,HM.out⟩,HL.out,HR.out,HZ.out,HO.out,HB.out⟩
      case measure=>simp [intOf];omega
  ·have k8:8 <= (k:Int):=by omega
   have HV:Hid (Digs d/\sv (s != t) d = sv s a * sv t b):=by
    obtain ⟨d1,d2⟩:=HD.out
    rw [(by omega:k = 8)] at d2
    exact ⟨d1,HE.out d d1 d2⟩
   have HO':Hid _:=HO.out.sign (s != t)
   obtain ⟨q0,q1,q2,q3,q4,q5,q6,q7,q8⟩:=HO.out.cells
   have y0:=HO.out.free 0 (by omega)
   obtain ⟨r0,r1,r2,r3,r4,r5,r6,r7,r8⟩:=HZ.out.cells
   obtain ⟨f0,f1,f2,f3,f4,f5,f6,f7,f8⟩:=HZ.out.frees
   have z0:=HL.out.neg
   have z1:=HR.out.neg
   clear HD HA HC HE
   go_wp2
   try simp only [Exit.inBlock,Exit.then]
   refine bodyPost_ret (by simp [results,Tryz.results53,go_sem,r0,r1,r2,r3,r4,r5,r6,r7,r8];try rfl) rfl ?_
   exact ⟨_,d,rfl,HV.out,below_nine (setAt HB.out (by omega) _) (by omega)⟩
end
section
open Go.RowKit Ref
def top (d:Nat->Int) (k:Nat):Int:=val (fun j=>d (k + j)) (8 - k)
theorem top_all (d:Nat->Int):top d 8 = 0:=rfl
theorem top_none (d:Nat->Int):top d 0 = val d 8:=val_ext 8 fun j _=>by simp
theorem top_step (d:Nat->Int) (k:Nat) (hk:k < 8):top d k = top d (k + 1) * 16777216 + d k:=by
 unfold top
 have h:=val_split (fun j=>d (k + j)) 1 (8 - (k + 1))
 rw [show 1 + (8 - (k + 1)) = 8 - k by omega] at h
 rw [h]
 have e:val (fun j=>d (k + (1 + j))) (8 - (k + 1)) = val (fun j=>d (k + 1 + j)) (8 - (k + 1)):=val_ext _ fun j _=>by rw [<- Nat.add_assoc]
 rw [e]
 have e1:val (fun j=>d (k + j)) 1 = d k:=by simp [val]
 rw [e1,Int.pow_succ,Int.pow_zero]
 generalize val (fun j=>d (k + 1 + j)) (8 - (k + 1)) = R
 omega
theorem top_le {d:Nat->Int} (hd:Digs d) (k:Nat) (hk:k <= 8):top d k <= val d 8:=by
 have h:=val_split d k (8 - k)
 rw [show k + (8 - k) = 8 by omega] at h
 have h0:0 <= val d k:=val_nonneg k fun j hj=>(hd j (by omega)).1
 have h1:0 <= top d k:=val_nonneg _ fun j hj=>(hd (k + j) (by omega)).1
 have h2:=pos k
 have h3:1 * top d k <= 16777216 ^ k * top d k:=Int.mul_le_mul_of_nonneg_right (by omega) h1
 unfold top at *
 omega
theorem top_nonneg {d:Nat->Int} (hd:Digs d) (k:Nat) (hk:k <= 8):0 <= top d k:=val_nonneg _ fun j hj=>(hd (k + j) (by omega)).1
def bitOf:Nat->Int
 | 0=>0
 | m + 1=>2 ^ m
theorem bit_half (m:Nat):(2:Int) ^ m / 2 = bitOf m:=by
 cases m with
 | zero=>rfl
 | succ m=>simp only [bitOf,Int.pow_succ];omega
theorem bit_pos (m:Nat):(0:Int) < 2 ^ m:=Int.pow_pos (by omega)
theorem bit_le {m:Nat} (h:m < 24):(2:Int) ^ m <= 8388608:=by
 have h1:(2:Int) ^ 23 = 2 ^ m * 2 ^ (23 - m):=by rw [<- Int.pow_add];congr 1;omega
 have h2:=bit_pos (23 - m)
 have h3:=bit_pos m
 have h4:(2:Int) ^ m * 1 <= 2 ^ m * 2 ^ (23 - m):=Int.mul_le_mul_of_nonneg_left (by omega) (by omega)
 have h5:(2:Int) ^ 23 = 8388608:=by decide
 omega
theorem down_bit {P x N q r C:Int} {m:Nat} (hm:m < 24) (hN:N = P * 2 ^ (24 - (m + 1)) + x / 2 ^ (m + 1)) (h:q * C + r = N):2 * q * C + (2 * r + x / 2 ^ m % 2) = P * 2 ^ (24 - m) + x / 2 ^ m:=by
 have e:x / 2 ^ (m + 1) = x / 2 ^ m / 2:=by rw [Int.pow_succ,Int.ediv_ediv_of_nonneg (Int.le_of_lt (bit_pos m))]
 have e2:(2:Int) ^ (24 - m) = 2 ^ (24 - (m + 1)) * 2:=by rw [<- Int.pow_succ];congr 1;omega
 rw [e] at hN
 rw [e2]
 generalize x / 2 ^ m = y at *
 generalize (2:Int) ^ (24 - (m + 1)) = Z at *
 have h2:y / 2 * 2 + y % 2 = y:=by omega
 subst hN
 grind
theorem down_early {P x N q r C V:Int} {m:Nat} (hm:m < 24) (hP:0 <= P) (hx:0 <= x) (hr:0 <= r) (hC:0 < C) (hN:N = P * 2 ^ (24 - (m + 1)) + x / 2 ^ (m + 1)) (h:q * C + r = N) (hq:2305843009213693951 < q) (hV:P * 16777216 + x <= V) :
  4611686018427387904 <= V / C:=by
 apply (Int.le_ediv_iff_mul_le hC).2
 have e1:(16777216:Int) = 2 ^ (24 - (m + 1)) * 2 ^ (m + 1):=by rw [<- Int.pow_add,show 24 - (m + 1) + (m + 1) = 24 by omega];decide
 have h1:=bit_pos (24 - (m + 1))
 have h2:=bit_pos m
 have h3:(2:Int) ^ (m + 1) = 2 ^ m * 2:=Int.pow_succ ..
 have h4:0 <= P * 2 ^ (24 - (m + 1)):=Int.mul_nonneg hP (by omega)
 have h5:P * 2 ^ (24 - (m + 1)) * 2 <= P * 2 ^ (24 - (m + 1)) * 2 ^ (m + 1):=Int.mul_le_mul_of_nonneg_left (by omega) h4
 have h6:P * 16777216 = P * 2 ^ (24 - (m + 1)) * 2 ^ (m + 1):=by rw [Int.mul_assoc,<- e1]
 have h7:x / 2 ^ (m + 1) * 2 <= x:=by
  have a:=Int.emod_add_mul_ediv x (2 ^ (m + 1))
  have b:=Int.emod_nonneg x (by omega:(2:Int) ^ (m + 1) ≠ 0)
  have c:0 <= x / 2 ^ (m + 1):=Int.ediv_nonneg hx (by omega)
  have d:2 * (x / 2 ^ (m + 1)) <= 2 ^ (m + 1) * (x / 2 ^ (m + 1)):=Int.mul_le_mul_of_nonneg_right (by omega) c
  omega
 have h8:2305843009213693952 * C <= q * C:=Int.mul_le_mul_of_nonneg_right (by omega) (by omega)
 omega
theorem down_end {n:Bool} {d:Nat->Int} {q r C:Int} (hC:0 < C) (hr0:0 <= r) (hr:r < C) (h:q * C + r = val d 8):sv n d / C = if n then (if r = 0 then -q else -(q + 1)) else q:=by
 have hd:=Fx.div_of (n:=val d 8) (q:=q) hC (by omega) (by rw [Int.add_mul];omega)
 unfold sv
 cases n
 ·simp [hd.1]
 ·simp only [if_true]
  rw [Fx.neg_div hC,hd.1,hd.2]
  have:(val d 8 - q * C = 0) ↔ r = 0:=by omega
  simp [this]
theorem down_great {n:Bool} {d:Nat->Int} {C:Int} (hC:0 < C) (h:4611686018427387904 <= val d 8 / C):Fx.great (sv n d / C) = true:=by
 rw [Fx.great_iff]
 unfold sv
 cases n
 ·simp;omega
 ·simp only [if_true]
  rw [Fx.neg_div hC]
  split <;> omega
theorem down_pos (s:Bool) (a:Nat->Int) (c:Int) (w:World) (ha:Digs a) (hc:0 < c) (hc2:c <= 4611686018427387903) :
  Calls Tryz.prog 52 #[wv s a,.int .i64 c] w fun e w'=>∃ n ok,e = .returned (.tuple #[.int .i64 n,.bool ok])/\Hid (ok = !Fx.great (sv s a / c)/\n = if ok then sv s a / c else 0)/\Hid (Below w.heap.size w w'):=by
 obtain ⟨C,hC⟩:∃ C,C = c:=⟨_,rfl⟩
 have hC0:0 < C:=by omega
 have hC1:C <= 4611686018427387903:=by omega
 rw [<- hC]
 have HA:Hid _:=ha
 have HG:Hid (4611686018427387904 <= val a 8 / C->Fx.great (sv s a / C) = true):=down_great hC0
 have HE:Hid (∀ q r,0 <= r->r < C->q * C + r = val a 8->sv s a / C = if s then (if r = 0 then -q else -(q + 1)) else q):=fun q r h1 h2 h3=>down_end hC0 h1 h2 h3
 clear ha
 go_enter Tryz.func52,Tryz.ntmps52
 go_wp2
 rw [<- hC]
 clear hC
 go_loopw [7,8,9] (fun qq rr i wr=>∃ (k:Nat) (q r:Int),k <= 8/\i = .int .i64 ((k:Int) - 1)/\qq = .int .i64 q/\rr = .int .i64 r/\0 <= q/\q <= 4611686018427387903/\0 <= r/\r < C/\Hid (q * C + r = top a k)/\Hid (RLies wr w.heap.size s a)/\Hid (Below w.heap.size w wr)) (fun _ _ i _=>(intOf i + 1).toNat)
 case atStart=>exact ⟨8,0,0,Nat.le_refl _,rfl,rfl,rfl,by omega,by omega,by omega,hC0,by show _ = _;rw [top_all];simp,lies_new w s a 94,new_after w _⟩
 case round =>
  obtain ⟨k,q,r,hk,rfl,rfl,rfl,hq0,hq1,hr0,hr1,HI,HL,HB⟩:=hrel
  match k,hk,HI with
  | 0,_,HI =>
   have HV:Hid _:=HE.out q r hr0 hr1 (by rw [<- top_none];exact HI.out)
   clear HE HG HI HA
   cases s
   ·skip
    go_wp2
    go_ret2
    exact ⟨q,true,rfl,⟨by rw [HV.out,if_neg (by simp),(Fx.not_great _).2 ⟨by omega,hq1⟩];rfl,by rw [HV.out];simp⟩,HB.out⟩
   ·skip
    rcases Int.lt_trichotomy r 0 with hr | hr | hr
    ·omega
    ·subst hr
     rw [if_pos (by simp),if_pos rfl] at HV
     go_wp2
     go_ret2
     exact ⟨-q,true,rfl,⟨by rw [HV.out,(Fx.not_great _).2 ⟨by omega,by omega⟩];rfl,by rw [HV.out];simp⟩,HB.out⟩
    ·rw [if_pos (by simp),if_neg (by omega)] at HV
     by_cases hm:q = 4611686018427387903
     ·subst hm
      go_wp2
      go_ret2
      exact ⟨0,false,rfl,⟨by rw [HV.out];decide,by simp⟩,HB.out⟩
     ·go_wp2
      go_ret2
      exact ⟨-(q + 1),true,rfl,⟨by rw [HV.out,(Fx.not_great _).2 ⟨by omega,by omega⟩];rfl,by rw [HV.out];simp⟩,HB.out⟩
  | k + 1,hk,HI =>
   have e:((k + 1:Nat):Int) - 1 = (k:Int):=by omega
   rw [e]
   have i0:(0:Int) <= (k:Int):=by omega
   have i1:(k:Int) < 8:=by omega
   have c0:=HL.out.dig k (by omega)
   have b0:=HA.out k (by omega)
   have HT:Hid _:=top_step a k (by omega)
   have HP:Hid _:=top_nonneg HA.out (k + 1) (by omega)
   have HW:Hid _:=top_le HA.out k (by omega)
   obtain ⟨x,hx⟩:∃ x,x = a k:=⟨_,rfl⟩
   obtain ⟨P,hP⟩:∃ P,P = top a (k + 1):=⟨_,rfl⟩
   rw [<- hx] at c0 b0 HT
   rw [<- hP] at HT HP HI
   have HX:Hid _:=hx
   clear hx hP e
   by_cases hskip:x = 0/\q = 0/\r = 0
   ·obtain ⟨rfl,rfl,rfl⟩:=hskip
    have HM:Hid (0 * C + 0 = top a k):=by show _ = _;rw [HT.out,<- HI.out];omega
    go_wp2
    go_roundw
    case rel=>exact ⟨k,0,0,by omega,by go_num,rfl,rfl,by omega,by omega,by omega,hC0,HM.out,HL.out,HB.out⟩
    case measure=>show (((k:Int) - 1) + 1).toNat < ((k:Int) + 1).toNat;omega
   ·have hor:x ≠ 0 \/ (x = 0/\q ≠ 0) \/ (x = 0/\q = 0/\r ≠ 0):=by omega
    clear hskip
    rcases hor with g | ⟨g,g'⟩ | ⟨g,g',g''⟩
    all_goals go_wp2
    all_goals try clear g''
    all_goals try clear g'
    all_goals clear g
    all_goals (
     go_loopw [7,8,10] (fun qq rr bb wr=>∃ (m:Nat) (q r:Int),m <= 24/\bb = .int .i64 (bitOf m)/\qq = .int .i64 q/\rr = .int .i64 r/\0 <= q/\q <= 4611686018427387903/\0 <= r/\r < C/\Hid (q * C + r = P * 2 ^ (24 - m) + x / 2 ^ m)/\Hid (RLies wr w.heap.size s a)/\Hid (Below w.heap.size w wr)) (fun _ _ bb _=>(intOf bb).toNat)
     case atStart=>exact ⟨24,q,r,Nat.le_refl _,by simp [bitOf],rfl,rfl,hq0,hq1,hr0,hr1,by show _ = _;rw [HI.out,Int.ediv_eq_zero_of_lt (by omega) (by simpa using b0.2)];simp,HL.out,HB.out⟩
     case round =>
      clear HI HL HB c0 hq0 hq1 hr0 hr1
      obtain ⟨m,q,r,hm,rfl,rfl,rfl,hq0,hq1,hr0,hr1,HI,HL,HB⟩:=hrel
      match m,hm,HI with
      | 0,_,HI =>
       have HM:Hid (q * C + r = top a k):=by show _ = _;rw [HI.out,HT.out];simp
       have hb0:bitOf 0 = 0:=rfl
       rw [hb0]
       go_wp2
       go_roundw
       case rel=>exact ⟨k,q,r,by omega,by go_num,rfl,rfl,hq0,hq1,hr0,hr1,HM.out,HL.out,HB.out⟩
       case measure=>show (((k:Int) - 1) + 1).toNat < ((k:Int) + 1).toNat;omega
      | m + 1,hm,HI =>
       have hb0:bitOf (m + 1) = 2 ^ m:=rfl
       rw [hb0]
       have c0:=HL.out.dig k (by omega)
       rw [<- HX.out] at c0
       have HN:Hid (∀ q' r':Int,q' * C + r' = 2 * q * C + (2 * r + x / 2 ^ m % 2)->q' * C + r' = P * 2 ^ (24 - m) + x / 2 ^ m):=fun q' r' h=>h.trans (down_bit (by omega:m < 24) rfl HI.out)
       have HY:Hid (2305843009213693951 < q->4611686018427387904 <= val a 8 / C):=fun h=>down_early (by omega:m < 24) HP.out b0.1 hr0 hC0 rfl HI.out h (by rw [<- HT.out];exact HW.out)
       have HH:Hid _:=bit_half m
       have hb1:=bit_pos m
       have hb2:=bit_le (by omega:m < 24)
       obtain ⟨bt,hbt⟩:∃ b,b = (2:Int) ^ m:=⟨_,rfl⟩
       rw [<- hbt] at HH hb1 hb2
       rw [<- hbt]
       have y0:0 <= x / bt:=Int.ediv_nonneg b0.1 (by omega)
       have y1:x / bt <= x:=Int.ediv_le_self _ b0.1
       obtain ⟨y,hy⟩:∃ y,y = x / bt:=⟨_,rfl⟩
       have HYY:Hid (y = x / 2 ^ m):=by show _ = _;rw [<- hbt];exact hy
       rw [<- hy] at y0 y1
       clear hbt hb0 HI
       have hbit:y % 2 = 1 \/ y % 2 = 0:=by omega
       rcases hbit with hbit | hbit
       ·skip
        by_cases hq:2305843009213693951 < q
        ·have HZ:Hid _:=HG.out (HY.out hq)
         go_wp2
         go_ret2
         exact ⟨0,false,rfl,⟨by rw [HZ.out];rfl,rfl⟩,HB.out⟩
        by_cases hr:C <= 2 * r + 1
        ·skip
         go_wp2
         go_roundw
         case rel=>exact ⟨m,2 * q + 1,2 * r + 1 - C,by omega,by rw [HH.out],rfl,rfl,by omega,by omega,by omega,by omega,HN.out _ _ (by rw [<- HYY.out,hbit];rw [Int.add_mul];omega),HL.out,HB.out⟩
         case measure=>show (bt / 2).toNat < bt.toNat;omega
        ·skip
         go_wp2
         go_roundw
         case rel=>exact ⟨m,2 * q,2 * r + 1,by omega,by rw [HH.out],rfl,rfl,by omega,by omega,by omega,by omega,HN.out _ _ (by rw [<- HYY.out,hbit]),HL.out,HB.out⟩
         case measure=>show (bt / 2).toNat < bt.toNat;omega
       ·skip
        by_cases hq:2305843009213693951 < q
        ·have HZ:Hid _:=HG.out (HY.out hq)
         go_wp2
         go_ret2
         exact ⟨0,false,rfl,⟨by rw [HZ.out];rfl,rfl⟩,HB.out⟩
        by_cases hr:C <= 2 * r
        ·skip
         go_wp2
         go_roundw
         case rel=>exact ⟨m,2 * q + 1,2 * r - C,by omega,by rw [HH.out],rfl,rfl,by omega,by omega,by omega,by omega,HN.out _ _ (by rw [<- HYY.out,hbit];rw [Int.add_mul];omega),HL.out,HB.out⟩
         case measure=>show (bt / 2).toNat < bt.toNat;omega
        ·skip
         go_wp2
         go_roundw
         case rel=>exact ⟨m,2 * q,2 * r,by omega,by rw [HH.out],rfl,rfl,by omega,by omega,by omega,by omega,HN.out _ _ (by rw [<- HYY.out,hbit];omega),HL.out,HB.out⟩
         case measure=>show (bt / 2).toNat < bt.toNat;omega)
theorem down_neg (s:Bool) (a:Nat->Int) (c:Int) (w:World) (ha:Digs a) (hc:c < 0) (hc2:-4611686018427387903 <= c) :
  Calls Tryz.prog 52 #[wv s a,.int .i64 c] w fun e w'=>∃ n ok,e = .returned (.tuple #[.int .i64 n,.bool ok])/\Hid (ok = !Fx.great (sv (!s) a / (-c))/\n = if ok then sv (!s) a / (-c) else 0)/\Hid (Below w.heap.size w w'):=by
 obtain ⟨C,hC⟩:∃ C,C = (-c):=⟨_,rfl⟩
 have hC0:0 < C:=by omega
 have hC1:C <= 4611686018427387903:=by omega
 rw [<- hC]
 have HA:Hid _:=ha
 have HG:Hid (4611686018427387904 <= val a 8 / C->Fx.great (sv (!s) a / C) = true):=down_great hC0
 have HE:Hid (∀ q r,0 <= r->r < C->q * C + r = val a 8->sv (!s) a / C = if (!s) then (if r = 0 then -q else -(q + 1)) else q):=fun q r h1 h2 h3=>down_end hC0 h1 h2 h3
 clear ha
 go_enter Tryz.func52,Tryz.ntmps52
 go_wp2
 rw [<- hC]
 clear hC
 go_loopw [7,8,9] (fun qq rr i wr=>∃ (k:Nat) (q r:Int),k <= 8/\i = .int .i64 ((k:Int) - 1)/\qq = .int .i64 q/\rr = .int .i64 r/\0 <= q/\q <= 4611686018427387903/\0 <= r/\r < C/\Hid (q * C + r = top a k)/\Hid (RLies wr w.heap.size s a)/\Hid (Below w.heap.size w wr)) (fun _ _ i _=>(intOf i + 1).toNat)
 case atStart=>exact ⟨8,0,0,Nat.le_refl _,rfl,rfl,rfl,by omega,by omega,by omega,hC0,by show _ = _;rw [top_all];simp,lies_new w s a 94,new_after w _⟩
 case round =>
  obtain ⟨k,q,r,hk,rfl,rfl,rfl,hq0,hq1,hr0,hr1,HI,HL,HB⟩:=hrel
  match k,hk,HI with
  | 0,_,HI =>
   have HV:Hid _:=HE.out q r hr0 hr1 (by rw [<- top_none];exact HI.out)
   clear HE HG HI HA
   cases s
   ·skip
    rcases Int.lt_trichotomy r 0 with hr | hr | hr
    ·omega
    ·subst hr
     rw [if_pos (by simp),if_pos rfl] at HV
     go_wp2
     go_ret2
     exact ⟨-q,true,rfl,⟨by rw [HV.out,(Fx.not_great _).2 ⟨by omega,by omega⟩];rfl,by rw [HV.out];simp⟩,HB.out⟩
    ·rw [if_pos (by simp),if_neg (by omega)] at HV
     by_cases hm:q = 4611686018427387903
     ·subst hm
      go_wp2
      go_ret2
      exact ⟨0,false,rfl,⟨by rw [HV.out];decide,by simp⟩,HB.out⟩
     ·go_wp2
      go_ret2
      exact ⟨-(q + 1),true,rfl,⟨by rw [HV.out,(Fx.not_great _).2 ⟨by omega,by omega⟩];rfl,by rw [HV.out];simp⟩,HB.out⟩
   ·skip
    go_wp2
    go_ret2
    exact ⟨q,true,rfl,⟨by rw [HV.out,if_neg (by simp),(Fx.not_great _).2 ⟨by omega,hq1⟩];rfl,by rw [HV.out];simp⟩,HB.out⟩
  | k + 1,hk,HI =>
   have e:((k + 1:Nat):Int) - 1 = (k:Int):=by omega
   rw [e]
   have i0:(0:Int) <= (k:Int):=by omega
   have i1:(k:Int) < 8:=by omega
   have c0:=HL.out.dig k (by omega)
   have b0:=HA.out k (by omega)
   have HT:Hid _:=top_step a k (by omega)
   have HP:Hid _:=top_nonneg HA.out (k + 1) (by omega)
   have HW:Hid _:=top_le HA.out k (by omega)
   obtain ⟨x,hx⟩:∃ x,x = a k:=⟨_,rfl⟩
   obtain ⟨P,hP⟩:∃ P,P = top a (k + 1):=⟨_,rfl⟩
   rw [<- hx] at c0 b0 HT
   rw [<- hP] at HT HP HI
   have HX:Hid _:=hx
   clear hx hP e
   by_cases hskip:x = 0/\q = 0/\r = 0
   ·obtain ⟨rfl,rfl,rfl⟩:=hskip
    have HM:Hid (0 * C + 0 = top a k):=by show _ = _;rw [HT.out,<- HI.out];omega
    go_wp2
    go_roundw
    case rel=>exact ⟨k,0,0,by omega,by go_num,rfl,rfl,by omega,by omega,by omega,hC0,HM.out,HL.out,HB.out⟩
    case measure=>show (((k:Int) - 1) + 1).toNat < ((k:Int) + 1).toNat;omega
   ·have hor:x ≠ 0 \/ (x = 0/\q ≠ 0) \/ (x = 0/\q = 0/\r ≠ 0):=by omega
    clear hskip
    rcases hor with g | ⟨g,g'⟩ | ⟨g,g',g''⟩
    all_goals go_wp2
    all_goals try clear g''
    all_goals try clear g'
    all_goals clear g
    all_goals (
     go_loopw [7,8,10] (fun qq rr bb wr=>∃ (m:Nat) (q r:Int),m <= 24/\bb = .int .i64 (bitOf m)/\qq = .int .i64 q/\rr = .int .i64 r/\0 <= q/\q <= 4611686018427387903/\0 <= r/\r < C/\Hid (q * C + r = P * 2 ^ (24 - m) + x / 2 ^ m)/\Hid (RLies wr w.heap.size s a)/\Hid (Below w.heap.size w wr)) (fun _ _ bb _=>(intOf bb).toNat)
     case atStart=>exact ⟨24,q,r,Nat.le_refl _,by simp [bitOf],rfl,rfl,hq0,hq1,hr0,hr1,by show _ = _;rw [HI.out,Int.ediv_eq_zero_of_lt (by omega) (by simpa using b0.2)];simp,HL.out,HB.out⟩
     case round =>
      clear HI HL HB c0 hq0 hq1 hr0 hr1
      obtain ⟨m,q,r,hm,rfl,rfl,rfl,hq0,hq1,hr0,hr1,HI,HL,HB⟩:=hrel
      match m,hm,HI with
      | 0,_,HI =>
       have HM:Hid (q * C + r = top a k):=by show _ = _;rw [HI.out,HT.out];simp
       have hb0:bitOf 0 = 0:=rfl
       rw [hb0]
       go_wp2
       go_roundw
       case rel=>exact ⟨k,q,r,by omega,by go_num,rfl,rfl,hq0,hq1,hr0,hr1,HM.out,HL.out,HB.out⟩
       case measure=>show (((k:Int) - 1) + 1).toNat < ((k:Int) + 1).toNat;omega
      | m + 1,hm,HI =>
       have hb0:bitOf (m + 1) = 2 ^ m:=rfl
       rw [hb0]
       have c0:=HL.out.dig k (by omega)
       rw [<- HX.out] at c0
       have HN:Hid (∀ q' r':Int,q' * C + r' = 2 * q * C + (2 * r + x / 2 ^ m % 2)->q' * C + r' = P * 2 ^ (24 - m) + x / 2 ^ m):=fun q' r' h=>h.trans (down_bit (by omega:m < 24) rfl HI.out)
       have HY:Hid (2305843009213693951 < q->4611686018427387904 <= val a 8 / C):=fun h=>down_early (by omega:m < 24) HP.out b0.1 hr0 hC0 rfl HI.out h (by rw [<- HT.out];exact HW.out)
       have HH:Hid _:=bit_half m
       have hb1:=bit_pos m
       have hb2:=bit_le (by omega:m < 24)
       obtain ⟨bt,hbt⟩:∃ b,b = (2:Int) ^ m:=⟨_,rfl⟩
       rw [<- hbt] at HH hb1 hb2
       rw [<- hbt]
       have y0:0 <= x / bt:=Int.ediv_nonneg b0.1 (by omega)
       have y1:x / bt <= x:=Int.ediv_le_self _ b0.1
       obtain ⟨y,hy⟩:∃ y,y = x / bt:=⟨_,rfl⟩
       have HYY:Hid (y = x / 2 ^ m):=by show _ = _;rw [<- hbt];exact hy
       rw [<- hy] at y0 y1
       clear hbt hb0 HI
       have hbit:y % 2 = 1 \/ y % 2 = 0:=by omega
       rcases hbit with hbit | hbit
       ·skip
        by_cases hq:2305843009213693951 < q
        ·have HZ:Hid _:=HG.out (HY.out hq)
         go_wp2
         go_ret2
         exact ⟨0,false,rfl,⟨by rw [HZ.out];rfl,rfl⟩,HB.out⟩
        by_cases hr:C <= 2 * r + 1
        ·skip
         go_wp2
         go_roundw
         case rel=>exact ⟨m,2 * q + 1,2 * r + 1 - C,by omega,by rw [HH.out],rfl,rfl,by omega,by omega,by omega,by omega,HN.out _ _ (by rw [<- HYY.out,hbit];rw [Int.add_mul];omega),HL.out,HB.out⟩
         case measure=>show (bt / 2).toNat < bt.toNat;omega
        ·skip
         go_wp2
         go_roundw
         case rel=>exact ⟨m,2 * q,2 * r + 1,by omega,by rw [HH.out],rfl,rfl,by omega,by omega,by omega,by omega,HN.out _ _ (by rw [<- HYY.out,hbit]),HL.out,HB.out⟩
         case measure=>show (bt / 2).toNat < bt.toNat;omega
       ·skip
        by_cases hq:2305843009213693951 < q
        ·have HZ:Hid _:=HG.out (HY.out hq)
         go_wp2
         go_ret2
         exact ⟨0,false,rfl,⟨by rw [HZ.out];rfl,rfl⟩,HB.out⟩
        by_cases hr:C <= 2 * r
        ·skip
         go_wp2
         go_roundw
         case rel=>exact ⟨m,2 * q + 1,2 * r - C,by omega,by rw [HH.out],rfl,rfl,by omega,by omega,by omega,by omega,HN.out _ _ (by rw [<- HYY.out,hbit];rw [Int.add_mul];omega),HL.out,HB.out⟩
         case measure=>show (bt / 2).toNat < bt.toNat;omega
        ·skip
         go_wp2
         go_roundw
         case rel=>exact ⟨m,2 * q,2 * r,by omega,by rw [HH.out],rfl,rfl,by omega,by omega,by omega,by omega,HN.out _ _ (by rw [<- HYY.out,hbit];omega),HL.out,HB.out⟩
         case measure=>show (bt / 2).toNat < bt.toNat;omega)
theorem down_any (s:Bool) (a:Nat->Int) (c:Int) (w:World) (ha:Digs a) (hc:c ≠ 0) (h1:-4611686018427387903 <= c) (h2:c <= 4611686018427387903) :
  Calls Tryz.prog 52 #[wv s a,.int .i64 c] w fun e w'=>∃ n ok,e = .returned (.tuple #[.int .i64 n,.bool ok])/\Hid (ok = !Fx.great (Fx.fl (sv s a) c)/\n = if ok then Fx.fl (sv s a) c else 0)/\Hid (Below w.heap.size w w'):=by
 unfold Fx.fl
 by_cases h:c < 0
 ·rw [if_pos h,<- sv_not]
  exact down_neg s a c w ha h h1
 ·rw [if_neg h]
  exact down_pos s a c w ha (by omega) h2
end
section
open Go.RowKit Ref
def RI (X r:Int) (m:Nat):Prop:=0 <= r/\r * r <= X/\X < (r + 2 ^ m) * (r + 2 ^ m)/\r + 2 ^ m <= 4611686018427387904
theorem ri_start {X:Int} (h0:0 <= X) (h:X < 4611686018427387904 * 4611686018427387904):RI X 0 62:=⟨by omega,by omega,by simpa using h,by decide⟩
theorem ri_up {X r:Int} {m:Nat} (h:RI X r (m + 1)) (hc:(r + 2 ^ m) * (r + 2 ^ m) <= X):RI X (r + 2 ^ m) m:=by
 obtain ⟨h1,h2,h3,h4⟩:=h
 have hp:=bit_pos m
 rw [Int.pow_succ] at h3 h4
 have e:r + 2 ^ m + 2 ^ m = r + 2 ^ m * 2:=by omega
 exact ⟨by omega,hc,by rw [e];exact h3,by omega⟩
theorem ri_stay {X r:Int} {m:Nat} (h:RI X r (m + 1)) (hc:X < (r + 2 ^ m) * (r + 2 ^ m)):RI X r m:=by
 obtain ⟨h1,h2,h3,h4⟩:=h
 have hp:=bit_pos m
 rw [Int.pow_succ] at h4
 exact ⟨h1,h2,hc,by omega⟩
theorem ri_end {X r:Int} (h:RI X r 0):r = (Fx.isq X.toNat:Int)/\Fx.great (Fx.isq X.toNat:Int) = false:=by
 obtain ⟨h1,h2,h3,h4⟩:=h
 have e:=Fx.isq_of h1 h2 (by simpa using h3)
 refine ⟨e,?_⟩
 rw [<- e,Fx.not_great]
 simp at h4
 omega
theorem ri_none {X:Int} (h:4611686018427387904 * 4611686018427387904 <= X):Fx.great (Fx.isq X.toNat:Int) = true:=by
 have hX:(0:Int) <= X:=by omega
 obtain ⟨x,rfl⟩:=Int.eq_ofNat_of_zero_le hX
 simp only [Int.toNat_natCast]
 obtain ⟨_,b⟩:=Fx.isq_is x
 rw [Fx.great_iff]
 right
 generalize Fx.isq x = y at *
 have hc:4611686018427387904 * 4611686018427387904 < (y + 1) * (y + 1):=by omega
 apply Int.not_le.1
 intro hle
 have hy:y + 1 <= 4611686018427387904:=by omega
 have:=Nat.mul_le_mul hy hy
 omega
theorem small_sq {a b:Int} (ha:a.natAbs <= 9223372036854775808) (hb:b.natAbs <= 9223372036854775808):(a * b).natAbs < 6277101735386680763835789423207666416102355444464034512896:=by
 rw [Int.natAbs_mul]
 exact Nat.lt_of_le_of_lt (Nat.mul_le_mul ha hb) (by decide)
theorem rootw_any (s:Bool) (a:Nat->Int) (w:World) (ha:Digs a) (h0:0 <= sv s a) :
  Calls Tryz.prog 145 #[wv s a] w fun e w'=>∃ n ok,e = .returned (.tuple #[.int .i64 n,.bool ok])/\Hid (ok = !Fx.great (Fx.isq (sv s a).toNat:Int)/\n = if ok then (Fx.isq (sv s a).toNat:Int) else 0)/\Hid (Below w.heap.size w w'):=by
 have HA:Hid _:=ha
 have hX:(sv s a).natAbs < 6277101735386680763835789423207666416102355444464034512896:=by have:=ha.lt;have:=ha.nonneg;unfold sv;split <;> omega
 have HX:Hid _:=hX
 have H0:Hid _:=h0
 clear ha hX h0
 go_enter Tryz.func145,Tryz.ntmps145
 go_wp2_with (fail)
 refine (of_any 4611686018427387904 _ (by omega) (by omega)).mono ?_
 rintro e w1 ⟨u1,d1,rfl,S1,B1⟩
 go_wp2_with (fail)
 refine (of_any 4611686018427387904 _ (by omega) (by omega)).mono ?_
 rintro e w2 ⟨u2,d2,rfl,S2,B2⟩
 go_wp2_with (fail)
 refine (times_any u1 u2 d1 d2 _ S1.out.1 S2.out.1 (by rw [S1.out.2,S2.out.2];decide)).mono ?_
 rintro e w3 ⟨u3,d3,rfl,S3,B3⟩
 have B4:Hid (Below w.heap.size w w3):=below_step (below_step (below_step (new_after w _) B1.out) B2.out) B3.out
 have LA:Hid (RLies w3 w.heap.size s a):=((RLies.below (lies_new w s a 94) B1.out (by simp)).below B2.out (by have:=B1.out.size;simp at this;omega)).below B3.out (by have:=B1.out.size;have:=B2.out.size;simp at *;omega)
 have S4:Hid (Digs d3/\sv u3 d3 = 4611686018427387904 * 4611686018427387904):=⟨S3.out.1,by rw [S3.out.2,S1.out.2,S2.out.2]⟩
 obtain ⟨a0,a1,a2,a3,a4,a5,a6,a7,a8⟩:=LA.out.cells
 have hs:w.heap.size < w3.heap.size:=LA.out.lt
 clear S1 S2 S3 B1 B2 B3
 go_wp2_with (fail)
 refine (rless_any s u3 a d3 _ HA.out S4.out.1 (by rw [S4.out.2];have:=HX.out;have:=H0.out;omega)).mono ?_
 rintro e w5 ⟨is,rfl,S5,B5⟩
 have LB:Hid (RLies w5 w.heap.size s a):=(LA.out.alloc _).below B5.out (by simp;omega)
 have B6:Hid (Below w.heap.size w w5):=below_step (B4.out.alloc B4.out.size _) B5.out
 have S6:Hid (is = true ↔ sv s a < 4611686018427387904 * 4611686018427387904):=by show _ ↔ _;rw [<- S4.out.2];exact S5.out
 clear LA B4 S4 S5 B5 a0 a1 a2 a3 a4 a5 a6 a7 a8 hs
 cases is
 ·go_wp2
  go_ret2
  have hg:=ri_none (X:=sv s a) (by have:=S6.out;simp at this;omega)
  exact ⟨0,false,rfl,⟨by rw [hg];rfl,rfl⟩,B6.out⟩
 ·have HR:Hid _:=ri_start H0.out (S6.out.1 rfl)
  clear S6
  go_wp2
  go_loopw [6,7] (fun rr bb wr=>∃ (m:Nat) (r:Int),m <= 62/\bb = .int .i64 (bitOf m)/\rr = .int .i64 r/\0 <= r/\r <= 4611686018427387904/\Hid (RI (sv s a) r m)/\Hid (RLies wr w.heap.size s a)/\Hid (Below w.heap.size w wr)) (fun _ bb _=>(intOf bb).toNat)
  case atStart=>exact ⟨62,0,Nat.le_refl _,rfl,rfl,by omega,by omega,HR.out,LB.out,B6.out⟩
  case round =>
   clear LB B6 HR
   obtain ⟨m,r,hm,rfl,rfl,hr0,hr1,HI,HL,HB⟩:=hrel
   match m,hm,HI with
   | 0,_,HI =>
    have hb0:bitOf 0 = 0:=rfl
    rw [hb0]
    have HE:Hid _:=ri_end HI.out
    go_wp2
    go_ret2
    exact ⟨r,true,rfl,⟨by rw [HE.out.2];rfl,by rw [HE.out.1];rfl⟩,HB.out⟩
   | m + 1,hm,HI =>
    have hb0:bitOf (m + 1) = 2 ^ m:=rfl
    rw [hb0]
    have HU:Hid (∀ b:Int,b = 2 ^ m->(r + b) * (r + b) <= sv s a->RI (sv s a) (r + b) m):=fun b hb h=>by subst hb;exact ri_up HI.out h
    have HV:Hid (∀ b:Int,b = 2 ^ m->sv s a < (r + b) * (r + b)->RI (sv s a) r m):=fun b hb h=>by subst hb;exact ri_stay HI.out h
    have hb1:=bit_pos m
    have hb2:r + 2 ^ m <= 4611686018427387904:=by have:=HI.out.2.2.2;rw [Int.pow_succ] at this;omega
    have HH:Hid _:=bit_half m
    obtain ⟨bt,hbt⟩:∃ b,b = (2:Int) ^ m:=⟨_,rfl⟩
    rw [<- hbt] at HH hb1 hb2
    rw [<- hbt]
    have HU':Hid _:=HU.out bt hbt
    have HV':Hid _:=HV.out bt hbt
    clear hbt HU HV HI hb0
    go_wp2_with (fail)
    refine (of_any (r + bt) _ (by omega) (by omega)).mono ?_
    rintro e w1 ⟨u1,d1,rfl,S1,B1⟩
    have B2:Hid (Below w.heap.size w w1):=below_step HB.out B1.out
    have LA:Hid (RLies w1 w.heap.size s a):=HL.out.below B1.out HL.out.lt
    have hs:w.heap.size < w1.heap.size:=LA.out.lt
    clear B1 HB HL
    have HT:Hid _:=fun W=>times_any u1 u1 d1 d1 W S1.out.1 S1.out.1 (by rw [S1.out.2];exact small_sq (by omega) (by omega))
    go_wp2_with (fail)
    obtain ⟨W,hW⟩:∃ W,W = w1.alloc (.cells #[.bool u1,.int .i64 (d1 0),.int .i64 (d1 1),.int .i64 (d1 2),.int .i64 (d1 3),.int .i64 (d1 4),.int .i64 (d1 5),.int .i64 (d1 6),.int .i64 (d1 7)] 94):=⟨_,rfl⟩
    obtain ⟨t8,ht8⟩:∃ t,t = w1.heap.size:=⟨_,rfl⟩
    have LW:Hid (RLies W w.heap.size s a):=by show RLies _ _ _ _;rw [hW];exact LA.out.alloc _
    have LT:Hid (RLies W t8 u1 d1):=by show RLies _ _ _ _;rw [hW,ht8];exact lies_new _ _ _ _
    have BW:Hid (Below w.heap.size w W):=by show Below _ _ _;rw [hW];exact B2.out.alloc B2.out.size _
    rw [<- hW,<- ht8]
    clear hW ht8 LA B2 hs
    obtain ⟨a0,a1,a2,a3,a4,a5,a6,a7,a8⟩:=LW.out.drew.cells
    obtain ⟨t0,t1,t2,t3,t4,t5,t6,t7,t8⟩:=LT.out.drew.cells
    go_region_with (first
     | (go_at_call 53;refine (HT.out _).mono ?_;rintro e w4 ⟨u4,d4,rfl,S4,B4⟩;obtain ⟨x0,x1,x2,x3,x4,x5,x6,x7,x8⟩:=(LW.out.drew.below B4.out LW.out.drew.lt).cells)
     | (go_at_call 148;refine (rless_any s u4 a d4 _ HA.out S4.out.1 (by have h1:=HX.out;have h2:=H0.out;have h3:=S4.out.1.lt;have h4:=S4.out.1.nonneg;have h5:0 <= sv u4 d4:=(by rw [S4.out.2,S1.out.2];exact Int.mul_nonneg (by omega) (by omega));have h6:sv u4 d4 <= val d4 8:=(by unfold sv;split <;> omega);omega)).mono ?_;rintro e w5 ⟨c,rfl,S5,B5⟩))
    all_goals (
     have HC:Hid (c = true ↔ sv s a < (r + bt) * (r + bt)):=(by show _ ↔ _;rw [<- S1.out.2,<- S4.out.2];exact S5.out)
     have LF:Hid (RLies w5 w.heap.size s a):=(LW.out.drew.below B4.out LW.out.drew.lt).below B5.out (LW.out.drew.below B4.out LW.out.drew.lt).lt
     have BF:Hid (Below w.heap.size w w5):=below_step (below_step BW.out.drew B4.out) B5.out
     clear S1 S4 S5 B4 B5 LW LT BW a0 a1 a2 a3 a4 a5 a6 a7 a8 t0 t1 t2 t3 t4 t5 t6 t7 t8 x0 x1 x2 x3 x4 x5 x6 x7 x8
     cases c
     ·go_wp2
      go_roundw
      case rel=>exact ⟨m,r + bt,by omega,by rw [HH.out],rfl,by omega,by omega,HU'.out (by have:=HC.out;simp at this;omega),LF.out,BF.out⟩
      case measure=>show (bt / 2).toNat < bt.toNat;omega
     ·go_wp2
      go_roundw
      case rel=>exact ⟨m,r,by omega,by rw [HH.out],rfl,by omega,by omega,HV'.out (HC.out.1 rfl),LF.out,BF.out⟩
      case measure=>show (bt / 2).toNat < bt.toNat;omega)
end
section
open Go.RowKit Ref Fx
theorem rgreat_any (zs:List Int) (b off cap:Nat) (w:World) (hlen:zs.length <= 4611686018427387904) (hc:∀ k,k < zs.length->w.cell? ⟨b,off + k,none⟩ = some (.int .i64 (zs.getD k 0))) :
  Calls Tryz.prog 50 #[.slice (some ⟨b,off,none⟩) zs.length cap] w fun e w'=>e = .returned (.bool (zs.any great))/\w' = w:=by
 have HC:Hid _:=hc
 clear hc
 go_enter Tryz.func50,Tryz.ntmps50
 go_wp2
 go_loop [3] (fun i=>∃ k:Nat,k <= zs.length/\i = .int .i64 k/\Hid ((zs.take k).any great = false)) (fun i=>zs.length - (intOf i).toNat)
 case atStart=>exact ⟨0,Nat.zero_le _,rfl,by simp [Hid]⟩
 case round =>
  obtain ⟨k,hk,rfl,HG⟩:=hrel
  by_cases hlt:k < zs.length
  ·have hcell:=HC.out k hlt
   have hs:=great_step zs k hlt HG.out
   obtain ⟨z,hz⟩:∃ z,zs.getD k 0 = z:=⟨_,rfl⟩
   rw [hz] at hcell hs
   have HS:Hid _:=hs
   clear hs hz
   by_cases g1:z < -4611686018427387903
   ·have hany:zs.any great = true:=by
     have:(zs.take (k + 1)).any great = true:=by rw [HS.out];simp [great,g1]
     rw [List.any_eq_true] at this ⊢
     obtain ⟨x,hx,hg⟩:=this
     exact ⟨x,List.mem_of_mem_take hx,hg⟩
    go_wp2
    go_ret
    exact ⟨rfl,rfl⟩
   ·by_cases g2:4611686018427387903 < z
    ·have hany:zs.any great = true:=by
      have:(zs.take (k + 1)).any great = true:=by rw [HS.out];simp [great,g2]
      rw [List.any_eq_true] at this ⊢
      obtain ⟨x,hx,hg⟩:=this
      exact ⟨x,List.mem_of_mem_take hx,hg⟩
     go_wp2
     go_ret
     exact ⟨rfl,rfl⟩
    ·have hno:Hid ((zs.take (k + 1)).any great = false):=by
      show _ = false
      rw [HS.out];simp [great];omega
     go_wp2
     go_round
     case rel=>exact ⟨k + 1,by omega,by go_num,hno⟩
     case measure=>simp [intOf];omega
  ·have hany:zs.any great = false:=by
    have:=HG.out
    rwa [List.take_of_length_le (by omega)] at this
   go_wp2
   go_ret
   exact ⟨rfl,rfl⟩
theorem rgreat_nil (a:Option Addr) (cap:Nat) (w:World) :
  Calls Tryz.prog 50 #[.slice a 0 cap] w fun e w'=>e = .returned (.bool false)/\w' = w:=by
 go_enter Tryz.func50,Tryz.ntmps50
 go_wp2
 go_rounds 1
 go_ret
 exact ⟨rfl,rfl⟩
theorem rgreat2 (a b:Int) (w:World):Calls Tryz.prog 50 #[.slice (some ⟨w.heap.size,0,none⟩) 2 2] (w.alloc (.cells #[.int .i64 a,.int .i64 b] 3)) fun e w'=>e = .returned (.bool (great a || great b))/\w' = w.alloc (.cells #[.int .i64 a,.int .i64 b] 3):=by
 have h:=rgreat_any [a,b] w.heap.size 0 2 (w.alloc (.cells #[.int .i64 a,.int .i64 b] 3)) (by simp) (fun k hk=>by
  match k,hk with
  | 0,_=>simp
  | 1,_=>simp)
 simpa using h
theorem rgreat3 (a b c:Int) (w:World):Calls Tryz.prog 50 #[.slice (some ⟨w.heap.size,0,none⟩) 3 3] (w.alloc (.cells #[.int .i64 a,.int .i64 b,.int .i64 c] 3)) fun e w'=>e = .returned (.bool (great a || (great b || great c)))/\w' = w.alloc (.cells #[.int .i64 a,.int .i64 b,.int .i64 c] 3):=by
 have h:=rgreat_any [a,b,c] w.heap.size 0 3 (w.alloc (.cells #[.int .i64 a,.int .i64 b,.int .i64 c] 3)) (by simp) (fun k hk=>by
  match k,hk with
  | 0,_=>simp
  | 1,_=>simp
  | 2,_=>simp)
 simpa using h
def tellsOf (n:Int) (ok:Bool):Option Int:=if ok then Fx.told n else none
theorem rtells_any (b off:Nat) (f:Bool) (n:Int) (ok:Bool) (w:World) (hc:w.cell? ⟨b,off,none⟩ = some (.bool f)) (hf:w.frozen? ⟨b,off,none⟩ = false) :
  Calls Tryz.prog 51 #[.pointer (some ⟨b,off,none⟩),.int .i64 n,.bool ok] w fun e w'=>e = .returned (.int .i64 ((tellsOf n ok).getD 0))/\Below w.heap.size (mark ⟨b,off,none⟩ (tellsOf n ok) w) w':=by
 cases ok
 ·go_enter Tryz.func51,Tryz.ntmps51
  go_wp2
  go_ret
  exact ⟨rfl,by simp [tellsOf,mark];exact Below.refl _ _⟩
 ·by_cases h1:n < -4611686018427387903
  ·have hg:great n = true:=(great_iff n).2 (Or.inl h1)
   go_enter Tryz.func51,Tryz.ntmps51
   go_wp2
   go_ret
   exact ⟨by simp [tellsOf,Fx.told,hg],by simp [tellsOf,Fx.told,hg,mark];exact Below.refl _ _⟩
  ·by_cases h2:4611686018427387903 < n
   ·have hg:great n = true:=(great_iff n).2 (Or.inr h2)
    go_enter Tryz.func51,Tryz.ntmps51
    go_wp2
    go_ret
    exact ⟨by simp [tellsOf,Fx.told,hg],by simp [tellsOf,Fx.told,hg,mark];exact Below.refl _ _⟩
   ·have hg:great n = false:=(not_great n).2 (by omega)
    go_enter Tryz.func51,Tryz.ntmps51
    go_wp2
    go_ret
    exact ⟨by simp [tellsOf,Fx.told,hg],by simp [tellsOf,Fx.told,hg,mark];exact Below.refl _ _⟩
theorem told_end {b off:Nat} {f:Bool} {o:Option Int} {n:Int} {ok:Bool} {w w1 w2:World} (ho:tellsOf n ok = o) (h1:Below w.heap.size w w1) (h2:Below w1.heap.size (mark ⟨b,off,none⟩ (tellsOf n ok) w1) w2)
  (hc:w.cell? ⟨b,off,none⟩ = some (.bool f)) (hf:w.frozen? ⟨b,off,none⟩ = false) :
  ∃ v g,Ending.returned (.int .i64 ((tellsOf n ok).getD 0)) = .returned (.int .i64 v)/\Hid (Step f o v g)/\Hid (After ⟨b,off,none⟩ g w w2):=by
 subst ho
 exact ⟨_,_,rfl,⟨rfl,rfl⟩,after_of (mark_after h1 h2) hc hf⟩
theorem radd_law (b off:Nat) (f:Bool) (x y:Int) (w:World) (hc:w.cell? ⟨b,off,none⟩ = some (.bool f)) (hf:w.frozen? ⟨b,off,none⟩ = false) :
  Calls Tryz.prog 26 #[.pointer (some ⟨b,off,none⟩),.int .i64 x,.int .i64 y] w fun e W'=>∃ v g,e = .returned (.int .i64 v)/\Hid (Step f (add x y) v g)/\Hid (After ⟨b,off,none⟩ g w W'):=by
 have hb:=new_after w (.cells #[.int .i64 x,.int .i64 y] 3)
 have hc':=cell_after hb hc
 have hf':=frozen_after hb hc hf
 have C1:=rgreat2 x y w
 cases hg:(great x || great y)
 ·have hadd:add x y = Fx.told (x + y):=by simp [add,hg]
  rw [hg] at C1
  have hx:-4611686018427387903 <= x/\x <= 4611686018427387903:=(not_great x).1 (by simp at hg;exact hg.1)
  have hy:-4611686018427387903 <= y/\y <= 4611686018427387903:=(not_great y).1 (by simp at hg;exact hg.2)
  have C2:Hid _:=rtells_any b off f (x + y) true _ hc' hf'
  have K1:Hid _:=C1
  have HB:Hid _:=hb
  have HC:Hid _:=hc
  have HF:Hid _:=hf
  have HA:Hid _:=hadd
  clear C1 hb hc hf hc' hf' hg hadd
  go_enter Tryz.func26,Tryz.ntmps26
  go_wp2_with (fail)
  refine Calls.mono K1.out ?_
  rintro e w1 ⟨rfl,rfl⟩
  go_wp2_with (fail)
  refine Calls.mono C2.out ?_
  rintro e w2 ⟨rfl,hb2⟩
  go_wp2_with (fail)
  go_ret
  exact told_end (HA.out.symm) HB.out hb2 HC.out HF.out
 ·have hadd:add x y = none:=by simp only [add,hg,if_true]
  rw [hg] at C1
  have C2:Hid _:=rtells_any b off f 0 false _ hc' hf'
  have K1:Hid _:=C1
  have HB:Hid _:=hb
  have HC:Hid _:=hc
  have HF:Hid _:=hf
  have HA:Hid _:=hadd
  clear C1 hb hc hf hc' hf' hg hadd
  go_enter Tryz.func26,Tryz.ntmps26
  go_wp2_with (fail)
  refine Calls.mono K1.out ?_
  rintro e w1 ⟨rfl,rfl⟩
  go_wp2_with (fail)
  refine Calls.mono C2.out ?_
  rintro e w2 ⟨rfl,hb2⟩
  go_wp2_with (fail)
  go_ret
  exact told_end (HA.out.symm) HB.out hb2 HC.out HF.out
theorem rsub_law (b off:Nat) (f:Bool) (x y:Int) (w:World) (hc:w.cell? ⟨b,off,none⟩ = some (.bool f)) (hf:w.frozen? ⟨b,off,none⟩ = false) :
  Calls Tryz.prog 28 #[.pointer (some ⟨b,off,none⟩),.int .i64 x,.int .i64 y] w fun e W'=>∃ v g,e = .returned (.int .i64 v)/\Hid (Step f (sub x y) v g)/\Hid (After ⟨b,off,none⟩ g w W'):=by
 have hb:=new_after w (.cells #[.int .i64 x,.int .i64 y] 3)
 have hc':=cell_after hb hc
 have hf':=frozen_after hb hc hf
 have C1:=rgreat2 x y w
 cases hg:(great x || great y)
 ·have hadd:sub x y = Fx.told (x - y):=by simp [sub,hg]
  rw [hg] at C1
  have hx:-4611686018427387903 <= x/\x <= 4611686018427387903:=(not_great x).1 (by simp at hg;exact hg.1)
  have hy:-4611686018427387903 <= y/\y <= 4611686018427387903:=(not_great y).1 (by simp at hg;exact hg.2)
  have C2:Hid _:=rtells_any b off f (x - y) true _ hc' hf'
  have K1:Hid _:=C1
  have HB:Hid _:=hb
  have HC:Hid _:=hc
  have HF:Hid _:=hf
  have HA:Hid _:=hadd
  clear C1 hb hc hf hc' hf' hg hadd
  go_enter Tryz.func28,Tryz.ntmps28
  go_wp2_with (fail)
  refine Calls.mono K1.out ?_
  rintro e w1 ⟨rfl,rfl⟩
  go_wp2_with (fail)
  refine Calls.mono C2.out ?_
  rintro e w2 ⟨rfl,hb2⟩
  go_wp2_with (fail)
  go_ret
  exact told_end (HA.out.symm) HB.out hb2 HC.out HF.out
 ·have hadd:sub x y = none:=by simp only [sub,hg,if_true]
  rw [hg] at C1
  have C2:Hid _:=rtells_any b off f 0 false _ hc' hf'
  have K1:Hid _:=C1
  have HB:Hid _:=hb
  have HC:Hid _:=hc
  have HF:Hid _:=hf
  have HA:Hid _:=hadd
  clear C1 hb hc hf hc' hf' hg hadd
  go_enter Tryz.func28,Tryz.ntmps28
  go_wp2_with (fail)
  refine Calls.mono K1.out ?_
  rintro e w1 ⟨rfl,rfl⟩
  go_wp2_with (fail)
  refine Calls.mono C2.out ?_
  rintro e w2 ⟨rfl,hb2⟩
  go_wp2_with (fail)
  go_ret
  exact told_end (HA.out.symm) HB.out hb2 HC.out HF.out
theorem fits_told {X:Int} {ok:Bool} {n:Int} (h:ok = !great X/\n = if ok then X else 0):tellsOf n ok = Fx.told X:=by
 obtain ⟨h1,h2⟩:=h
 unfold tellsOf Fx.told
 cases hg:great X
 ·have hok:ok = true:=by rw [h1,hg];rfl
  rw [hok] at h2 ⊢
  simp only [if_true] at h2
  subst h2
  simp [hg]
 ·have hok:ok = false:=by rw [h1,hg];rfl
  rw [hok]
  simp
theorem rratio_law (b off:Nat) (f:Bool) (x y z:Int) (w:World) (hc:w.cell? ⟨b,off,none⟩ = some (.bool f)) (hf:w.frozen? ⟨b,off,none⟩ = false) :
  Calls Tryz.prog 27 #[.pointer (some ⟨b,off,none⟩),.int .i64 x,.int .i64 y,.int .i64 z] w fun e W'=>∃ v g,e = .returned (.int .i64 v)/\Hid (Step f (ratio x y z) v g)/\Hid (After ⟨b,off,none⟩ g w W'):=by
 have hb:=new_after w (.cells #[.int .i64 x,.int .i64 y,.int .i64 z] 3)
 have C1:=rgreat3 x y z w
 have HB:Hid _:=hb
 have HC:Hid _:=hc
 have HF:Hid _:=hf
 have HN:Hid (∀ W,Below w.heap.size w W->Calls Tryz.prog 51 #[.pointer (some ⟨b,off,none⟩),.int .i64 0,.bool false] W fun e w'=>e = .returned (.int .i64 ((tellsOf 0 false).getD 0))/\Below W.heap.size (mark ⟨b,off,none⟩ (tellsOf 0 false) W) w'):=fun W h=>rtells_any b off f 0 false W (cell_after h hc) (frozen_after h hc hf)
 cases hg:(great x || (great y || great z))
 ·have hx:-4611686018427387903 <= x/\x <= 4611686018427387903:=(not_great x).1 (by simp at hg;exact hg.1)
  have hy:-4611686018427387903 <= y/\y <= 4611686018427387903:=(not_great y).1 (by simp at hg;exact hg.2.1)
  have hz:-4611686018427387903 <= z/\z <= 4611686018427387903:=(not_great z).1 (by simp at hg;exact hg.2.2)
  rw [hg] at C1
  have K1:Hid _:=C1
  by_cases z0:z = 0
  ·subst z0
   have HA:Hid _:=(by simp [ratio]:ratio x y 0 = none)
   clear C1 hb hc hf hg
   go_enter Tryz.func27,Tryz.ntmps27
   go_wp2_with (fail)
   refine Calls.mono K1.out ?_
   rintro e w1 ⟨rfl,rfl⟩
   go_wp2_with (fail)
   refine Calls.mono (HN.out _ HB.out) ?_
   rintro e w2 ⟨rfl,hb2⟩
   go_wp2_with (fail)
   go_ret
   exact told_end (HA.out.symm) HB.out hb2 HC.out HF.out
  ·have HA:Hid _:=(by simp only [ratio,z0,hg];rfl:ratio x y z = Fx.told (fl (x * y) z))
   clear C1 hb hc hf hg HN
   go_enter Tryz.func27,Tryz.ntmps27
   go_wp2_with (fail)
   refine Calls.mono K1.out ?_
   rintro e w1 ⟨rfl,rfl⟩
   go_wp2_with (fail)
   refine (of_any x _ (by omega) (by omega)).mono ?_
   rintro e w1 ⟨u1,d1,rfl,S1,B1⟩
   go_wp2_with (fail)
   refine (of_any y _ (by omega) (by omega)).mono ?_
   rintro e w2 ⟨u2,d2,rfl,S2,B2⟩
   go_wp2_with (fail)
   refine (times_any u1 u2 d1 d2 _ S1.out.1 S2.out.1 (by rw [S1.out.2,S2.out.2];exact small_sq (by omega) (by omega))).mono ?_
   rintro e w3 ⟨u3,d3,rfl,S3,B3⟩
   go_wp2_with (fail)
   refine (down_any u3 d3 z _ S3.out.1 z0 hz.1 hz.2).mono ?_
   rintro e w4 ⟨n,ok,rfl,S4,B4⟩
   have B5:Hid (Below w.heap.size w w4):=below_step (below_step (below_step (below_step HB.out B1.out) B2.out) B3.out) B4.out
   have S5:Hid _:=fits_told S4.out
   rw [S3.out.2,S1.out.2,S2.out.2] at S5
   clear S1 S2 S3 S4 B1 B2 B3 B4 K1
   go_wp2_with (fail)
   refine (rtells_any b off f n ok _ (cell_after B5.out HC.out) (frozen_after B5.out HC.out HF.out)).mono ?_
   rintro e w6 ⟨rfl,hb2⟩
   go_wp2_with (fail)
   go_ret
   exact told_end (S5.out.trans HA.out.symm) B5.out hb2 HC.out HF.out
 ·have HA:Hid _:=(by simp only [ratio,hg];simp:ratio x y z = none)
  rw [hg] at C1
  have K1:Hid _:=C1
  clear C1 hb hc hf hg
  go_enter Tryz.func27,Tryz.ntmps27
  go_wp2_with (fail)
  refine Calls.mono K1.out ?_
  rintro e w1 ⟨rfl,rfl⟩
  go_wp2_with (fail)
  refine Calls.mono (HN.out _ HB.out) ?_
  rintro e w2 ⟨rfl,hb2⟩
  go_wp2_with (fail)
  go_ret
  exact told_end (HA.out.symm) HB.out hb2 HC.out HF.out
theorem rdiv_law (b off:Nat) (f:Bool) (x y:Int) (w:World) (hc:w.cell? ⟨b,off,none⟩ = some (.bool f)) (hf:w.frozen? ⟨b,off,none⟩ = false) :
  Calls Tryz.prog 137 #[.pointer (some ⟨b,off,none⟩),.int .i64 x,.int .i64 y] w fun e W'=>∃ v g,e = .returned (.int .i64 v)/\Hid (Step f (ratio x 4294967296 y) v g)/\Hid (After ⟨b,off,none⟩ g w W'):=by
 have C:Hid _:=rratio_law b off f x 4294967296 y w hc hf
 clear hc hf
 go_enter Tryz.func137,Tryz.ntmps137
 go_wp2_with (fail)
 refine Calls.mono C.out ?_
 rintro e w1 ⟨v,g,rfl,S,A⟩
 go_wp2_with (fail)
 go_ret
 exact ⟨v,g,rfl,S,A⟩
end
section
open Go.RowKit Ref Fx
theorem rvbare_any (W:World):Calls Tryz.prog 132 #[] W fun e W'=>e = .returned (.pointer (some ⟨W.heap.size,0,none⟩))/\W' = W.alloc (.cells #[.bool false] 33):=by
 go_enter Tryz.func132,Tryz.ntmps132
 go_wp2
 go_ret
 exact ⟨rfl,rfl⟩
theorem done_any (b off o:Nat) (f g:Bool) (W:World) (hc:W.cell? ⟨b,off,none⟩ = some (.bool f)) (hf:W.frozen? ⟨b,off,none⟩ = false) (ho:W.cell? ⟨o,0,none⟩ = some (.bool g)) (hne:o ≠ b) :
  Calls Tryz.prog 134 #[.pointer (some ⟨b,off,none⟩),.pointer (some ⟨o,0,none⟩)] W fun e W'=>e = .returned (.bool (!g))/\Hid (After ⟨b,off,none⟩ (f || g) W W'):=by
 have n1:b ≠ o:=Ne.symm hne
 have fin:∀ x:Bool,After ⟨b,off,none⟩ x W (W.setCell ⟨b,off,none⟩ (.bool x)):=fun x=>((Leaves.refl ⟨b,off,none⟩ W).own _).done (by simp [go_sem,hc]) (by simp [go_sem,hf])
 have HF:Hid _:=fin
 clear fin
 cases f
 ·go_enter Tryz.func134,Tryz.ntmps134
  go_wp2
  go_ret
  exact ⟨rfl,HF.out _⟩
 ·go_enter Tryz.func134,Tryz.ntmps134
  go_wp2
  go_ret
  exact ⟨rfl,HF.out _⟩
structure Ho (W V:World) (p:Addr) (po:Nat) (f g:Bool) (l:List (Addr × Value)):Prop where
 leaves:Leaves p W V
 flag:V.cell? p = some (.bool f)
 flagf:V.frozen? p = false
 own:V.cell? ⟨po,0,none⟩ = some (.bool g)
 ownf:V.frozen? ⟨po,0,none⟩ = false
 fix:∀ c ∈ l,V.cell? c.1 = some c.2/\V.frozen? c.1 = false
 far:∀ c ∈ l,c.1.block ≠ po
 hp:p.block < W.heap.size
 ho:W.heap.size <= po
theorem Ho.after {W V V':World} {p:Addr} {po:Nat} {f g g':Bool} {l:List (Addr × Value)} (h:Ho W V p po f g l) (A:After ⟨po,0,none⟩ g' V V'):Ho W V' p po f g' l:=
 ⟨h.leaves.after A h.ho,A.cellOf h.flag (by have:=h.hp;have:=h.ho;show p.block ≠ po;omega),A.frozenOf h.flag h.flagf (by have:=h.hp;have:=h.ho;show p.block ≠ po;omega),A.cell,A.frozen,fun c hc=>⟨A.cellOf (h.fix c hc).1 (h.far c hc),A.frozenOf (h.fix c hc).1 (h.fix c hc).2 (h.far c hc)⟩,h.far,h.hp,h.ho⟩
theorem Ho.alloc {W V:World} {p:Addr} {po:Nat} {f g:Bool} {l:List (Addr × Value)} (h:Ho W V p po f g l) (o:Obj):Ho W (V.alloc o) p po f g l:=by
 have hb:=new_after V o
 exact ⟨h.leaves.alloc o,cell_after hb h.flag,frozen_after hb h.flag h.flagf,cell_after hb h.own,frozen_after hb h.own h.ownf,fun c hc=>⟨cell_after hb (h.fix c hc).1,frozen_after hb (h.fix c hc).1 (h.fix c hc).2⟩,h.far,h.hp,h.ho⟩
theorem step3_chain {f g1 g2 g3:Bool} {a b c:Option Int} {x y z:Int} (h1:Step false a x g1) (h2:Step g1 b y g2) (h3:Step g2 c z g3):Step3 f a b c (cond g3 0 x) (cond g3 0 y) (cond g3 0 z) (f || g3):=by
 obtain ⟨rfl,rfl⟩:=h1
 obtain ⟨rfl,rfl⟩:=h2
 obtain ⟨rfl,rfl⟩:=h3
 simp only [Bool.false_or]
 exact ⟨rfl,rfl,rfl,rfl⟩
end
end Go.Proofs.YtablgiflakncfaaGreat
