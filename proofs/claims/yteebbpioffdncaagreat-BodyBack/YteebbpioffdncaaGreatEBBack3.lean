/- The quotient of a number of 128 bits by one of 62, down (package fx, wide.by). -/
import Derived.Test.YteebbpioffdncaaGreatEBBack2
import Derived.Deep.RegionWith
set_option maxHeartbeats 2000000
set_option linter.unusedVariables false
namespace Go.Proofs.YteebbpioffdncaaGreat
open Go.Calls renaming mono -> JA
open Go.World renaming block_lt_of_cell? -> JB
open Tryz
open Go.Value renaming int -> J
open Go.IntKind renaming i64 -> Y
section
open Go.RowKit Fx
theorem Jl1 (X:Int) (w:World) (h0:-170141183460469231731687303715884105728 <= X) (g:X < 0) :
  Calls Tryz.prog 167 #[.agg #[.int .u64 (X / 18446744073709551616 % 18446744073709551616),.int .u64 (X % 18446744073709551616)]] w fun e w' =>
   e = .returned (.bool true)/\Below w.heap.size w w':=by
 simpa [g] using Jg8 X w h0 (by omega)
theorem Jm1 (X:Int) (w:World) (h1:X < 170141183460469231731687303715884105728) (g:0 <= X) :
  Calls Tryz.prog 167 #[.agg #[.int .u64 (X / 18446744073709551616 % 18446744073709551616),.int .u64 (X % 18446744073709551616)]] w fun e w' =>
   e = .returned (.bool false)/\Below w.heap.size w w':=by
 simpa [show ¬ X < 0 by omega] using Jg8 X w (by omega) h1
theorem Je6 {W w1:World} {u v:Value} {t:TypeId} (hb:Below (W.alloc (.cells #[u,v] t)).heap.size (W.alloc (.cells #[u,v] t)) w1) :
  w1.cell? ⟨W.heap.size,0,none⟩ = some u/\w1.cell? ⟨W.heap.size,1,none⟩ = some v/\W.heap.size < w1.heap.size:=by
 refine ⟨?_,?_,?_⟩
 ·rw [hb.cell (by simp)];simp
 ·rw [hb.cell (by simp)];simp
 ·have:=hb.size;simp at this;omega
theorem Jcn {w w1 w3:World} {o o':Obj} {n:Nat} (hb:Below (w.alloc o).heap.size (w.alloc o) w1) (hb3:Below ((w1.alloc o').drewN n).heap.size ((w1.alloc o').drewN n) w3):Below w.heap.size w w3:=by
 have a:Below w.heap.size w (w.alloc o):=(Below.refl _ _).alloc (Nat.le_refl _) _
 have s1:=hb.size
 have b:Below w.heap.size w w1:=a.trans (hb.mono (by simp))
 have c:Below w.heap.size w ((w1.alloc o').drewN n):=below_drewN (b.alloc (by simp at s1;omega) _) n
 exact c.trans (hb3.mono (by simp;simp at s1;omega))
theorem Jtp (X c Z d:Int) (w:World) (h0:-170141183460469231731687303715884105728 < X) (h1:X < 170141183460469231731687303715884105728)
  (hZ:(0 <= X/\Z = X) \/ (X < 0/\Z = -X)) (hd:(0 < c/\d = c) \/ (c < 0/\d = -c)) (hc:d <= 4611686018427387903) (hn:Z / d <= 4611686018427387903) :
  Calls Tryz.prog 158 #[.agg #[.int .u64 (X / 18446744073709551616 % 18446744073709551616),.int .u64 (X % 18446744073709551616)],J Y c] w fun e w' =>
   e = .returned (.tuple #[J Y (fl X c),.bool true])/\Below w.heap.size w w':=by
 obtain ⟨xh,hxh⟩:∃ u,u = X / 18446744073709551616 % 18446744073709551616:=⟨_,rfl⟩
 obtain ⟨xl,hxl⟩:∃ u,u = X % 18446744073709551616:=⟨_,rfl⟩
 obtain ⟨zh,hzh⟩:∃ u,u = Z / 18446744073709551616 % 18446744073709551616:=⟨_,rfl⟩
 obtain ⟨zl,hzl⟩:∃ u,u = Z % 18446744073709551616:=⟨_,rfl⟩
 have hd0:0 < d:=by omega
 have hZ0:0 <= Z:=by omega
 have hZe:zh * 18446744073709551616 + zl = Z:=by omega
 obtain ⟨n,hne⟩:∃ n,Z / d = n:=⟨_,rfl⟩
 obtain ⟨r,hre⟩:∃ r,Z % d = r:=⟨_,rfl⟩
 have hn0:0 <= n:=by rw [<- hne];exact Int.ediv_nonneg hZ0 (by omega)
 rw [hne] at hn
 have hzd:zh < d:=by
  have h:=(Jgi Z d hd0).2
  rw [hne] at h
  have g:(n + 1) * d <= 4611686018427387904 * d:=Int.mul_le_mul_of_nonneg_right (by omega) (by omega)
  omega
 have hz0:0 <= zh:=by omega
 have hl0:0 <= zl:=by omega
 have hl1:zl < 18446744073709551616:=by omega
 have hr0:0 <= r:=by rw [<- hre];exact Int.emod_nonneg _ (by omega)
 have CS:Hid _:=fun w=>Jj9 X Z w h0 h1 hZ
 have CD:Hid _:=fun w=>Jiv zh zl d w hz0 hzd hl0 hl1 (by omega)
 have NEG:Hid ((-Z) / d = if r = 0 then -n else -(n + 1)):=by rw [<- hne,<- hre];exact neg_div hd0
 have hdr:Hid (r < d):=by rw [<- hre];exact Int.emod_lt_of_pos _ hd0
 simp only [Hid] at CS CD
 rw [hZe,hne,hre] at CD
 rcases hZ with ⟨gX,eZ⟩ | ⟨gX,eZ⟩
 ·have CB:=fun w=>Jm1 X w h1 gX
  rw [<- hxh,<- hxl] at *
  rw [<- hzh,<- hzl] at CS
  have CS:Hid _:=CS
  have CD:Hid _:=CD
  have CB:Hid _:=CB
  rcases hd with ⟨gc,ed⟩ | ⟨gc,ed⟩
  ·have hfl:fl X c = n:=by unfold fl;rw [if_neg (by omega),<- hne,eZ,ed]
   rw [hfl]
   have hdec:decide (c < 0) = false:=by simp;omega
   subst ed
   clear hxh hxl hzh hzl hZe hne hre eZ hfl h0 h1 NEG
   go_enter func158,ntmps158
   go_wp2_with (first | (go_at_call 165;refine (CS.out _).mono ?_;rintro e w1 ⟨rfl,hb⟩;obtain ⟨c1,c2,hsz⟩:=Je6 hb) | (go_at_call 166;refine (CD.out _).mono ?_;rintro e w2 ⟨rfl,nn,rfl⟩) | (go_at_call 167;refine (CB.out _).mono ?_;rintro e w3 ⟨rfl,hb3⟩))
   go_returns
   exact ⟨rfl,Jcn hb hb3⟩
  ·have hfl:fl X c = if r = 0 then -n else -(n + 1):=by unfold fl;rw [if_pos (by omega),<- eZ,<- ed];exact NEG.out
   rw [hfl]
   subst ed
   clear hxh hxl hzh hzl hZe hne hre eZ hfl h0 h1 NEG
   by_cases gr:r = 0
   ·rw [if_pos gr]
    have gr':(r != 0) = false:=by simp [gr]
    clear gr
    go_enter func158,ntmps158
    go_wp2_with (first | (go_at_call 165;refine (CS.out _).mono ?_;rintro e w1 ⟨rfl,hb⟩;obtain ⟨c1,c2,hsz⟩:=Je6 hb) | (go_at_call 166;refine (CD.out _).mono ?_;rintro e w2 ⟨rfl,nn,rfl⟩) | (go_at_call 167;refine (CB.out _).mono ?_;rintro e w3 ⟨rfl,hb3⟩))
    go_returns
    exact ⟨rfl,Jcn hb hb3⟩
   ·rw [if_neg gr]
    have gr':(r != 0) = true:=by simp [gr]
    clear gr
    go_enter func158,ntmps158
    go_wp2_with (first | (go_at_call 165;refine (CS.out _).mono ?_;rintro e w1 ⟨rfl,hb⟩;obtain ⟨c1,c2,hsz⟩:=Je6 hb) | (go_at_call 166;refine (CD.out _).mono ?_;rintro e w2 ⟨rfl,nn,rfl⟩) | (go_at_call 167;refine (CB.out _).mono ?_;rintro e w3 ⟨rfl,hb3⟩))
    go_returns
    exact ⟨rfl,Jcn hb hb3⟩
 ·have CB:=fun w=>Jl1 X w (by omega) gX
  rw [<- hxh,<- hxl] at *
  rw [<- hzh,<- hzl] at CS
  have CS:Hid _:=CS
  have CD:Hid _:=CD
  have CB:Hid _:=CB
  rcases hd with ⟨gc,ed⟩ | ⟨gc,ed⟩
  ·have hfl:fl X c = if r = 0 then -n else -(n + 1):=by unfold fl;rw [if_neg (by omega),show X = -Z by omega,<- ed];exact NEG.out
   rw [hfl]
   subst ed
   clear hxh hxl hzh hzl hZe hne hre eZ hfl h0 h1 NEG
   by_cases gr:r = 0
   ·rw [if_pos gr]
    have gr':(r != 0) = false:=by simp [gr]
    clear gr
    go_enter func158,ntmps158
    go_wp2_with (first | (go_at_call 165;refine (CS.out _).mono ?_;rintro e w1 ⟨rfl,hb⟩;obtain ⟨c1,c2,hsz⟩:=Je6 hb) | (go_at_call 166;refine (CD.out _).mono ?_;rintro e w2 ⟨rfl,nn,rfl⟩) | (go_at_call 167;refine (CB.out _).mono ?_;rintro e w3 ⟨rfl,hb3⟩))
    go_returns
    exact ⟨rfl,Jcn hb hb3⟩
   ·rw [if_neg gr]
    have gr':(r != 0) = true:=by simp [gr]
    clear gr
    go_enter func158,ntmps158
    go_wp2_with (first | (go_at_call 165;refine (CS.out _).mono ?_;rintro e w1 ⟨rfl,hb⟩;obtain ⟨c1,c2,hsz⟩:=Je6 hb) | (go_at_call 166;refine (CD.out _).mono ?_;rintro e w2 ⟨rfl,nn,rfl⟩) | (go_at_call 167;refine (CB.out _).mono ?_;rintro e w3 ⟨rfl,hb3⟩))
    go_returns
    exact ⟨rfl,Jcn hb hb3⟩
  ·have hfl:fl X c = n:=by unfold fl;rw [if_pos (by omega),<- hne,eZ,ed]
   rw [hfl]
   subst ed
   clear hxh hxl hzh hzl hZe hne hre eZ hfl h0 h1 NEG
   go_enter func158,ntmps158
   go_wp2_with (first | (go_at_call 165;refine (CS.out _).mono ?_;rintro e w1 ⟨rfl,hb⟩;obtain ⟨c1,c2,hsz⟩:=Je6 hb) | (go_at_call 166;refine (CD.out _).mono ?_;rintro e w2 ⟨rfl,nn,rfl⟩) | (go_at_call 167;refine (CB.out _).mono ?_;rintro e w3 ⟨rfl,hb3⟩))
   go_returns
   exact ⟨rfl,Jcn hb hb3⟩
theorem Jsa (X c Z d:Int) (w:World) (h0:-170141183460469231731687303715884105728 < X) (h1:X < 170141183460469231731687303715884105728)
  (hZ:(0 <= X/\Z = X) \/ (X < 0/\Z = -X)) (hd:(0 < c/\d = c) \/ (c < 0/\d = -c)) (hc:d <= 4611686018427387903) (hn:4611686018427387903 < Z / d) :
  Calls Tryz.prog 158 #[.agg #[.int .u64 (X / 18446744073709551616 % 18446744073709551616),.int .u64 (X % 18446744073709551616)],J Y c] w fun e w' =>
   e = .returned (.tuple #[J Y 0,.bool false])/\Below w.heap.size w w':=by
 obtain ⟨xh,hxh⟩:∃ u,u = X / 18446744073709551616 % 18446744073709551616:=⟨_,rfl⟩
 obtain ⟨xl,hxl⟩:∃ u,u = X % 18446744073709551616:=⟨_,rfl⟩
 obtain ⟨zh,hzh⟩:∃ u,u = Z / 18446744073709551616 % 18446744073709551616:=⟨_,rfl⟩
 obtain ⟨zl,hzl⟩:∃ u,u = Z % 18446744073709551616:=⟨_,rfl⟩
 have hd0:0 < d:=by omega
 have hZ0:0 <= Z:=by omega
 have hZe:zh * 18446744073709551616 + zl = Z:=by omega
 obtain ⟨n,hne⟩:∃ n,Z / d = n:=⟨_,rfl⟩
 obtain ⟨r,hre⟩:∃ r,Z % d = r:=⟨_,rfl⟩
 rw [hne] at hn
 have hz0:0 <= zh:=by omega
 have hl0:0 <= zl:=by omega
 have hl1:zl < 18446744073709551616:=by omega
 have hr0:0 <= r:=by rw [<- hre];exact Int.emod_nonneg _ (by omega)
 have CS:=fun w=>Jj9 X Z w h0 h1 hZ
 rw [<- hxh,<- hxl] at *
 rw [<- hzh,<- hzl] at CS
 by_cases hzd:zh < d
 ·have CD:=fun w=>Jiv zh zl d w hz0 hzd hl0 hl1 (by omega)
  rw [hZe,hne,hre] at CD
  have CS:Hid _:=CS
  have CD:Hid _:=CD
  clear hxh hxl hzh hzl hZe hne hre h0 h1 hZ
  rcases hd with ⟨gc,ed⟩ | ⟨gc,ed⟩ <;> subst ed
  all_goals
   go_enter func158,ntmps158
   go_wp2_with (first | (go_at_call 165;refine (CS.out _).mono ?_;rintro e w1 ⟨rfl,hb⟩;obtain ⟨c1,c2,hsz⟩:=Je6 hb) | (go_at_call 166;refine (CD.out _).mono ?_;rintro e w2 ⟨rfl,nn,rfl⟩))
   go_returns
   exact ⟨rfl,Jcn hb (Below.refl _ _)⟩
 ·have CS:Hid _:=CS
  clear hxh hxl hzh hzl hZe hne hre h0 h1 hZ
  rcases hd with ⟨gc,ed⟩ | ⟨gc,ed⟩ <;> subst ed
  all_goals
   go_enter func158,ntmps158
   go_wp2_with (first | (go_at_call 165;refine (CS.out _).mono ?_;rintro e w1 ⟨rfl,hb⟩;obtain ⟨c1,c2,hsz⟩:=Je6 hb))
   go_returns
   exact ⟨rfl,Jcn (n:=0) hb (Below.refl _ _)⟩
end
section
open Go.RowKit Fx
theorem Jmy (X:Int) (w:World) (h0:0 <= X) (h1:X < 170141183460469231731687303715884105728) :
  Calls Tryz.prog 159 #[.agg #[.int .u64 (X / 18446744073709551616 % 18446744073709551616),.int .u64 (X % 18446744073709551616)]] w fun e w' =>
   (∃ n:Nat,e = .returned (J Y n)/\n <= 127/\Hid (X < 2 ^ n))/\Below w.heap.size w w':=by
 obtain ⟨h,hh⟩:∃ u,u = X / 18446744073709551616 % 18446744073709551616:=⟨_,rfl⟩
 obtain ⟨l,hl⟩:∃ u,u = X % 18446744073709551616:=⟨_,rfl⟩
 rw [<- hh,<- hl]
 have bh:=Jdd h (by omega) (by omega)
 have bl:=Jdd l (by omega) (by omega)
 have e:X = h * 18446744073709551616 + l:=by omega
 have h63:h < 9223372036854775808:=by omega
 have bh':bitLen h.toNat <= 63:=by
  by_cases g:bitLen h.toNat <= 63
  ·exact g
  ·exfalso
   by_cases z:h.toNat = 0
   ·rw [z] at g;exact absurd g (by decide)
   ·have a:=(bitLen_spec h.toNat).2 z
    have:=Nat.pow_le_pow_right (n:=2) (by omega) (show 63 <= bitLen h.toNat - 1 by omega)
    omega
 by_cases g:0 < h
 ·have r:X < 2 ^ (64 + bitLen h.toNat):=by
   have a:=(bitLen_spec h.toNat).1
   have a':h + 1 <= 2 ^ bitLen h.toNat:=by
    have:((h.toNat:Nat):Int) < ((2 ^ bitLen h.toNat:Nat):Int):=by exact_mod_cast a
    rw [Int.natCast_pow] at this
    have:=Int.toNat_of_nonneg (show 0 <= h by omega)
    simp at *;omega
   rw [Int.pow_add]
   have:=Int.mul_le_mul_of_nonneg_left a' (show (0:Int) <= 2 ^ 64 by decide)
   omega
  have H0:0 <= h:=by omega
  have H1:h < 18446744073709551616:=by omega
  have R:Hid _:=r
  clear hh hl e h0 h1 r
  go_enter func159,ntmps159
  go_wp2_with (go_at_call 168;refine (Jgd _ _ H0 H1).mono ?_;rintro e w' ⟨rfl,rfl⟩)
  go_returns
  refine ⟨⟨64 + bitLen h.toNat,Jr2 (by omega),by omega,R⟩,by go_grown⟩
 ·have r:X < 2 ^ (bitLen l.toNat):=by
   have a:=(bitLen_spec l.toNat).1
   have:((l.toNat:Nat):Int) < ((2 ^ bitLen l.toNat:Nat):Int):=by exact_mod_cast a
   rw [Int.natCast_pow] at this
   have:=Int.toNat_of_nonneg (show 0 <= l by omega)
   simp at *;omega
  have H0:0 <= l:=by omega
  have H1:l < 18446744073709551616:=by omega
  have R:Hid _:=r
  clear hh hl e h0 h1 r
  go_enter func159,ntmps159
  go_wp2_with (go_at_call 168;refine (Jgd _ _ H0 H1).mono ?_;rintro e w' ⟨rfl,rfl⟩)
  go_returns
  refine ⟨⟨bitLen l.toNat,rfl,by omega,R⟩,by go_grown⟩
theorem Jt6 {a b:Int} {c:Bool} (h:¬ a < b):(decide (a < b) || c) = c:=by simp [h]
theorem Jon (n X:Int) (w:World) (hn0:0 <= n) (hn:n < 18446744073709551616) (h0:0 <= X) (h1:X < 170141183460469231731687303715884105728) :
  Calls Tryz.prog 160 #[.int .u64 n,.agg #[.int .u64 (X / 18446744073709551616 % 18446744073709551616),.int .u64 (X % 18446744073709551616)]] w fun e w' =>
   e = .returned (.bool (decide (X < n * n)))/\Below w.heap.size w w':=by
 obtain ⟨h,hh⟩:∃ u,u = X / 18446744073709551616 % 18446744073709551616:=⟨_,rfl⟩
 obtain ⟨l,hl⟩:∃ u,u = X % 18446744073709551616:=⟨_,rfl⟩
 rw [<- hh,<- hl]
 obtain ⟨P,hP⟩:∃ P,P = n * n:=⟨_,rfl⟩
 obtain ⟨ph,hph⟩:∃ P,P = n * n / 18446744073709551616:=⟨_,rfl⟩
 obtain ⟨pl,hpl⟩:∃ P,P = n * n % 18446744073709551616:=⟨_,rfl⟩
 have CM:=fun w=>Jdq n n w hn0 hn hn0 hn
 rw [<- hph,<- hpl] at CM
 rw [<- hP] at *
 have CM:Hid _:=CM
 by_cases g1:h < ph
 ·have r:decide (X < P) = true:=by simp;omega
  rw [r]
  clear hh hl hP hph hpl r
  go_enter func160,ntmps160
  go_wp2_with (go_at_call 145;refine (CM.out _).mono ?_;rintro e w' ⟨rfl,rfl⟩)
  go_returns
  exact ⟨rfl,by go_grown⟩
 ·by_cases g2:ph = h
  ·have r:decide (X < P) = decide (l < pl):=by rw [decide_eq_decide];omega
   rw [r]
   have g2':(ph == h) = true:=by simp [g2]
   clear hh hl hP hph hpl r g2
   go_enter func160,ntmps160
   go_wp2_with (go_at_call 145;refine (CM.out _).mono ?_;rintro e w' ⟨rfl,rfl⟩)
   go_returns
   exact ⟨Jhp (by rw [Jt6 (by omega)]),by go_grown⟩
  ·have r:decide (X < P) = false:=by simp;omega
   rw [r]
   have g2':(ph == h) = false:=by simp [g2]
   clear hh hl hP hph hpl r g2
   go_enter func160,ntmps160
   go_wp2_with (go_at_call 145;refine (CM.out _).mono ?_;rintro e w' ⟨rfl,rfl⟩)
   go_returns
   exact ⟨Jhp (by simp;omega),by go_grown⟩
def Jjv (X n:Int) (k:Nat):Prop:=n.toNat % 2 ^ k = 0/\n * n <= X/\X < (n + 2 ^ k) * (n + 2 ^ k)/\0 <= n/\n + 2 ^ k <= 18446744073709551616
theorem Jma {X:Int} {n:Nat} (h0:0 <= X) (hn:n <= 127) (h:X < 2 ^ n):Jjv X 0 ((n + 1) / 2):=by
 refine ⟨by simp,by simpa using h0,?_,by omega,?_⟩
 ·rw [Int.zero_add,<- Int.pow_add]
  have:(2:Int) ^ n <= 2 ^ ((n + 1) / 2 + (n + 1) / 2):=by
   exact_mod_cast Nat.pow_le_pow_right (n:=2) (by omega) (show n <= (n + 1) / 2 + (n + 1) / 2 by omega)
  omega
 ·rw [Int.zero_add]
  have:(2:Int) ^ ((n + 1) / 2) <= 2 ^ 64:=by
   exact_mod_cast Nat.pow_le_pow_right (n:=2) (by omega) (show (n + 1) / 2 <= 64 by omega)
  simpa using this
theorem Jgh {X n:Int} {j:Nat} (h:Jjv X n (j + 1)):n + 2 ^ j < 18446744073709551616/\(n + 2 ^ j).toNat % 2 ^ j = 0/\n.toNat % 2 ^ j = 0:=by
 obtain ⟨a,b,c,d,e⟩:=h
 have hp:(0:Int) < 2 ^ j:=Int.pow_pos (by omega)
 rw [Int.pow_succ] at e
 have hm:n.toNat % 2 ^ j = 0:=by
  rw [Nat.pow_succ] at a
  have:=Nat.mod_mul_right_mod n.toNat (2 ^ j) 2
  rw [a] at this
  simpa using this.symm
 refine ⟨by omega,?_,hm⟩
 have:(n + 2 ^ j).toNat = n.toNat + 2 ^ j:=by
  obtain ⟨m,rfl⟩:=Int.eq_ofNat_of_zero_le d
  have:((m:Int) + 2 ^ j) = ((m + 2 ^ j:Nat):Int):=by simp
  rw [this,Int.toNat_natCast,Int.toNat_natCast]
 rw [this,Nat.add_mod_right,hm]
theorem Jst {X n:Int} {j:Nat} (h:Jjv X n (j + 1)) (hc:(n + 2 ^ j) * (n + 2 ^ j) <= X):Jjv X (n + 2 ^ j) j:=by
 obtain ⟨_,q,_⟩:=Jgh h
 obtain ⟨a,b,c,d,e⟩:=h
 have hp:(0:Int) < 2 ^ j:=Int.pow_pos (by omega)
 have s:n + 2 ^ j + 2 ^ j = n + 2 ^ (j + 1):=by rw [Int.pow_succ];omega
 exact ⟨q,hc,by rw [s];exact c,by omega,by rw [s];exact e⟩
theorem Joi {X n:Int} {j:Nat} (h:Jjv X n (j + 1)) (hc:X < (n + 2 ^ j) * (n + 2 ^ j)):Jjv X n j:=by
 obtain ⟨_,_,q⟩:=Jgh h
 obtain ⟨a,b,c,d,e⟩:=h
 have hp:(0:Int) < 2 ^ j:=Int.pow_pos (by omega)
 rw [Int.pow_succ] at e
 exact ⟨q,b,hc,d,by omega⟩
theorem Jr7 {n:Int} {j:Nat} (h0:0 <= n) (h:n + 2 ^ j < 18446744073709551616) (hm:n.toNat % 2 ^ (j + 1) = 0):bits .or .u64 n (2 ^ j) = n + 2 ^ j:=by
 obtain ⟨m,rfl⟩:=Int.eq_ofNat_of_zero_le h0
 have e:((2:Int) ^ j) = ((2 ^ j:Nat):Int):=by simp
 rw [e] at h ⊢
 rw [u64_or_nat _ _ (by omega) (by omega),nat_join (j + 1) _ _ (by simpa using hm) (Nat.pow_lt_pow_right (by omega) (by omega))]
 simp
end
section
open Go.RowKit Fx
theorem Jl6 {w wr:World} {o:Obj} (hb:Below (w.alloc o).heap.size (w.alloc o) wr):Below w.heap.size w wr:=
 ((Below.refl _ _).alloc (Nat.le_refl _) _).trans (hb.mono (by simp))
theorem Jrc (X:Int) (w:World) (h0:0 <= X) (h1:X < 170141183460469231731687303715884105728) :
  Calls Tryz.prog 144 #[.agg #[.int .u64 (X / 18446744073709551616 % 18446744073709551616),.int .u64 (X % 18446744073709551616)]] w fun e w' =>
   e = .returned (.tuple #[J Y (wrap64 (isq X.toNat)),.bool (decide ((isq X.toNat:Int) <= 4611686018427387903))])/\Below w.heap.size w w':=by
 have CL:=fun w=>Jmy X w h0 h1
 have CA:=fun n w a b=>Jon n X w a b h0 h1
 obtain ⟨h,hh⟩:∃ u,u = X / 18446744073709551616 % 18446744073709551616:=⟨_,rfl⟩
 obtain ⟨l,hl⟩:∃ u,u = X % 18446744073709551616:=⟨_,rfl⟩
 rw [<- hh,<- hl] at CL CA ⊢
 have KL:Hid _:=CL
 have KA:Hid _:=CA
 have H0:Hid _:=h0
 clear hh hl CL CA h0 h1
 go_enter func144,ntmps144
 go_wp2_with (go_at_call 159;refine (KL.out _).mono ?_;rintro e w1 ⟨⟨N,rfl,hN,HX⟩,hb⟩;obtain ⟨c1,c2,hsz⟩:=Je6 hb)
 go_loopw [4,5] (fun a b wr=>∃ (n p:Int) (k:Nat),a = .int .u64 n/\b = J Y p/\p + 1 = k/\p <= 63/\Hid (Jjv X n k)/\Below (w.alloc (.cells #[.int .u64 h,.int .u64 l] 146)).heap.size (w.alloc (.cells #[.int .u64 h,.int .u64 l] 146)) wr) (fun _ b _=>(intOf b + 1).toNat)
 case atStart=>exact ⟨_,_,(N + 1) / 2,rfl,rfl,by omega,by omega,Jma H0.out hN HX.out,hb⟩
 case round =>
  obtain ⟨n,p,k,rfl,rfl,hk,hp,HI,hbr⟩:=hrel
  obtain ⟨d1,d2,hsr⟩:=Je6 hbr
  rcases k with _ | j
  ·have hp1:p = -1:=by omega
   subst hp1
   have hI:=HI.out
   obtain ⟨_,i1,i2,i3,i4⟩:=hI
   simp at i2 i4
   obtain rfl:n = (isq X.toNat:Int):=isq_of i3 i1 i2
   clear i1 i2 hk
   go_wp2
   go_returns
   exact ⟨rfl,Jl6 hbr⟩
  ·have hp1:p = (j:Int):=by omega
   subst hp1
   have hI:=HI.out
   have hN0:0 <= n:=hI.2.2.2.1
   have nx:=Jgh hI
   have hor:=Jr7 hN0 nx.1 hI.1
   have hpw:(0:Int) < 2 ^ j:=Int.pow_pos (by omega)
   have hw:IntKind.u64.wrap (2 ^ j) = 2 ^ j:=by rw [IntKind.wrap_u64];omega
   have hw':IntKind.u64.wrap (1 * 2 ^ j) = 2 ^ j:=by rw [Int.one_mul];exact hw
   have hK:=fun w=>KA.out (n + 2 ^ j) w (by omega) nx.1
   obtain ⟨m,hm⟩:∃ m,m = n + 2 ^ j:=⟨_,rfl⟩
   rw [<- hm] at hK hor
   by_cases hc:X < m * m
   ·have hK:Hid (∀ w,Calls Tryz.prog 160 #[.int .u64 m,.agg #[.int .u64 h,.int .u64 l]] w fun e w'=>e = .returned (.bool true)/\Below w.heap.size w w'):=fun w=>by simpa [hc] using hK w
    have I2:Hid (Jjv X n j):=Joi hI (by rw [<- hm];exact hc)
    clear hI nx hc hm hpw
    go_wp2_with (go_at_call 160;refine (hK.out _).mono ?_;rintro e w2 ⟨rfl,hb2⟩)
    go_roundw
    case rel=>exact ⟨_,_,j,rfl,rfl,by omega,by omega,I2,hbr.trans (hb2.mono (by have:=hbr.size;omega))⟩
    case measure=>simp [intOf]
   ·have hK:Hid (∀ w,Calls Tryz.prog 160 #[.int .u64 m,.agg #[.int .u64 h,.int .u64 l]] w fun e w'=>e = .returned (.bool false)/\Below w.heap.size w w'):=fun w=>by simpa [hc] using hK w
    have I2:Hid (Jjv X m j):=by rw [hm];exact Jst hI (by rw [<- hm];omega)
    clear hI nx hc hm hpw
    go_wp2_with (go_at_call 160;refine (hK.out _).mono ?_;rintro e w2 ⟨rfl,hb2⟩)
    go_roundw
    case rel=>exact ⟨_,_,j,rfl,rfl,by omega,by omega,I2,hbr.trans (hb2.mono (by have:=hbr.size;omega))⟩
    case measure=>simp [intOf]
end
section
open Go.RowKit Fx
theorem Jhl (zs:List Int) (k:Nat) (h:k < zs.length) (hn:(zs.take k).any great = false):(zs.take (k + 1)).any great = great (zs.getD k 0):=by
 rw [List.take_succ_eq_append_getElem h,List.any_append,hn]
 simp [List.getD_eq_getElem?_getD,List.getElem?_eq_getElem h]
theorem Jcv (zs:List Int) (b off cap:Nat) (w:World) (hlen:zs.length <= 4611686018427387904) (hc:∀ k,k < zs.length->w.cell? ⟨b,off + k,none⟩ = some (J Y (zs.getD k 0))) :
  Calls Tryz.prog 119 #[.slice (some ⟨b,off,none⟩) zs.length cap] w fun e w'=>e = .returned (.bool (zs.any great))/\w' = w:=by
 have HC:Hid _:=hc
 clear hc
 go_enter func119,ntmps119
 go_wp2
 go_loop [7] (fun i=>∃ k:Nat,k <= zs.length/\i = J Y k/\Hid ((zs.take k).any great = false)) (fun i=>zs.length - (intOf i).toNat)
 case atStart=>exact ⟨0,Nat.zero_le _,rfl,by simp [Hid]⟩
 case round =>
  obtain ⟨k,hk,rfl,HG⟩:=hrel
  by_cases hlt:k < zs.length
  ·have hcell:=HC.out k hlt
   have hs:=Jhl zs k hlt HG.out
   obtain ⟨z,hz⟩:∃ z,zs.getD k 0 = z:=⟨_,rfl⟩
   rw [hz] at hcell hs
   have HS:Hid _:=hs
   clear hs hz
   by_cases g1:z < -4611686018427387903
   ·have hany:zs.any great = true:=by
     have:(zs.take (k + 1)).any great = true:=by rw [HS.out];simp [great,g1]
     rw [List.any_eq_true] at this ⊢
     obtain ⟨x,hx,hg⟩:=this
     exact ⟨x,List.mem_of_mem_take hx,hg⟩
    go_wp2
    go_ret
    exact ⟨rfl,rfl⟩
   ·by_cases g2:4611686018427387903 < z
    ·have hany:zs.any great = true:=by
      have:(zs.take (k + 1)).any great = true:=by rw [HS.out];simp [great,g2]
      rw [List.any_eq_true] at this ⊢
      obtain ⟨x,hx,hg⟩:=this
      exact ⟨x,List.mem_of_mem_take hx,hg⟩
     go_wp2
     go_ret
     exact ⟨rfl,rfl⟩
    ·have hno:Hid ((zs.take (k + 1)).any great = false):=by
      show _ = false
      rw [HS.out];simp [great];omega
     go_wp2
     go_round
     case rel=>exact ⟨k + 1,by omega,by go_num,hno⟩
     case measure=>simp [intOf];omega
  ·have hany:zs.any great = false:=by
    have:=HG.out
    rwa [List.take_of_length_le (by omega)] at this
   go_wp2
   go_ret
   exact ⟨rfl,rfl⟩
theorem Jpj (a:Option Addr) (cap:Nat) (w:World) :
  Calls Tryz.prog 119 #[.slice a 0 cap] w fun e w'=>e = .returned (.bool false)/\w' = w:=by
 go_enter func119,ntmps119
 go_wp2
 go_rounds 1
 go_ret
 exact ⟨rfl,rfl⟩
theorem Jcb (b off:Nat) (f:Bool) (w:World) (hc:w.cell? ⟨b,off,none⟩ = some (.bool f)) (hf:w.frozen? ⟨b,off,none⟩ = false) :
  Calls Tryz.prog 120 #[.pointer (some ⟨b,off,none⟩)] w fun e w'=>e = .returned (J Y 0)/\w' = w.setCell ⟨b,off,none⟩ (.bool true):=by
 go_enter func120,ntmps120
 go_wp2
 go_ret
 exact ⟨rfl,rfl⟩
theorem Jq8 (a:Int) (w:World):Calls Tryz.prog 119 #[.slice (some ⟨w.heap.size,0,none⟩) 1 1] (w.alloc (.cells #[J Y a] 3)) fun e w'=>e = .returned (.bool (great a))/\w' = w.alloc (.cells #[J Y a] 3):=by
 have h:=Jcv [a] w.heap.size 0 1 (w.alloc (.cells #[J Y a] 3)) (by simp) (fun k hk=>by
  match k,hk with
  | 0,_=>simp)
 simpa using h
theorem Jlw (a b:Int) (w:World):Calls Tryz.prog 119 #[.slice (some ⟨w.heap.size,0,none⟩) 2 2] (w.alloc (.cells #[J Y a,J Y b] 3)) fun e w'=>e = .returned (.bool (great a || great b))/\w' = w.alloc (.cells #[J Y a,J Y b] 3):=by
 have h:=Jcv [a,b] w.heap.size 0 2 (w.alloc (.cells #[J Y a,J Y b] 3)) (by simp) (fun k hk=>by
  match k,hk with
  | 0,_=>simp
  | 1,_=>simp)
 simpa using h
theorem Jty (a b c:Int) (w:World):Calls Tryz.prog 119 #[.slice (some ⟨w.heap.size,0,none⟩) 3 3] (w.alloc (.cells #[J Y a,J Y b,J Y c] 3)) fun e w'=>e = .returned (.bool (great a || (great b || great c)))/\w' = w.alloc (.cells #[J Y a,J Y b,J Y c] 3):=by
 have h:=Jcv [a,b,c] w.heap.size 0 3 (w.alloc (.cells #[J Y a,J Y b,J Y c] 3)) (by simp) (fun k hk=>by
  match k,hk with
  | 0,_=>simp
  | 1,_=>simp
  | 2,_=>simp)
 simpa using h
def Jct (p:Addr) (o:Option Int) (w:World):World:=if o.isNone then w.setCell p (.bool true) else w
theorem Jcw {w w1:World} {p:Addr} {v:Value} (hb:Below w.heap.size w w1):Below w.heap.size (w.setCell p v) (w1.setCell p v):=by
 refine ⟨hb.os,hb.tape,hb.output,by simpa [World.setCell] using hb.size,fun k hk=>?_⟩
 simp only [World.setCell,Array.getElem?_modify]
 rw [hb.block k hk]
theorem Jh {w w1:World} {p:Addr} {v:Value} (hb:Below w.heap.size w w1) (hc:w.cell? p = some v):w1.cell? p = some v:=(hb.cell (JB _ _ hc)).trans hc
theorem Ji {w w1:World} {p:Addr} {v:Value} (hb:Below w.heap.size w w1) (hc:w.cell? p = some v) (hf:w.frozen? p = false):w1.frozen? p = false:=(hb.frozen (JB _ _ hc)).trans hf
theorem Jg (w:World) (o:Obj):Below w.heap.size w (w.alloc o):=(Below.refl _ _).alloc (Nat.le_refl _) _
theorem Jq4 (b off:Nat) (n:Int) (w:World) (hg:great n = false) :
  Calls Tryz.prog 121 #[.pointer (some ⟨b,off,none⟩),J Y n,.bool true] w fun e w'=>e = .returned (J Y n)/\Below w.heap.size w w':=by
 have C1:Hid _:=Jq8 n w
 rw [hg] at C1
 clear hg
 go_enter func121,ntmps121
 go_wp2_with (go_at_call 119;refine (JA C1.out ?_);rintro e w' ⟨rfl,rfl⟩)
 go_ret
 exact ⟨rfl,by go_grown⟩
theorem Jm5 (b off:Nat) (f:Bool) (n:Int) (w:World) (hc:w.cell? ⟨b,off,none⟩ = some (.bool f)) (hf:w.frozen? ⟨b,off,none⟩ = false) (hg:great n = true) :
  Calls Tryz.prog 121 #[.pointer (some ⟨b,off,none⟩),J Y n,.bool true] w fun e w'=>e = .returned (J Y 0)/\Below w.heap.size (w.setCell ⟨b,off,none⟩ (.bool true)) w':=by
 have C1:=Jq8 n w
 have hb:=Jg w (.cells #[J Y n] 3)
 have C2:Hid _:=Jcb b off f (w.alloc (.cells #[J Y n] 3)) (Jh hb hc) (Ji hb hc hf)
 have HB:Hid _:=Jcw (p:=⟨b,off,none⟩) (v:=.bool true) hb
 rw [hg] at C1
 have K1:Hid _:=C1
 clear hg C1 hb hc hf
 go_enter func121,ntmps121
 go_wp2_with (first | (go_at_call 119;refine (JA K1.out ?_);rintro e w' ⟨rfl,rfl⟩) | (go_at_call 120;refine (JA C2.out ?_);rintro e w' ⟨rfl,rfl⟩))
 go_ret
 exact ⟨rfl,HB.out⟩
theorem Jse (b off:Nat) (f:Bool) (n:Int) (w:World) (hc:w.cell? ⟨b,off,none⟩ = some (.bool f)) (hf:w.frozen? ⟨b,off,none⟩ = false) :
  Calls Tryz.prog 121 #[.pointer (some ⟨b,off,none⟩),J Y n,.bool false] w fun e w'=>e = .returned (J Y 0)/\Below w.heap.size (w.setCell ⟨b,off,none⟩ (.bool true)) w':=by
 have C2:Hid _:=Jcb b off f w hc hf
 clear hc hf
 go_enter func121,ntmps121
 go_wp2_with (go_at_call 120;refine (JA C2.out ?_);rintro e w' ⟨rfl,rfl⟩)
 go_ret
 exact ⟨rfl,Below.refl _ _⟩
theorem Jdn (b off:Nat) (f:Bool) (n:Int) (w:World) (hc:w.cell? ⟨b,off,none⟩ = some (.bool f)) (hf:w.frozen? ⟨b,off,none⟩ = false) :
  Calls Tryz.prog 121 #[.pointer (some ⟨b,off,none⟩),J Y n,.bool true] w fun e w'=>e = .returned (J Y ((Fx.told n).getD 0))/\Below w.heap.size (Jct ⟨b,off,none⟩ (Fx.told n) w) w':=by
 cases hg:great n
 ·simpa [Fx.told,hg,Jct] using Jq4 b off n w hg
 ·simpa [Fx.told,hg,Jct] using Jm5 b off f n w hc hf hg
theorem Jcl (b off:Nat) (f:Bool) (n:Int) (w:World) (hc:w.cell? ⟨b,off,none⟩ = some (.bool f)) (hf:w.frozen? ⟨b,off,none⟩ = false) :
  Calls Tryz.prog 121 #[.pointer (some ⟨b,off,none⟩),J Y n,.bool false] w fun e w'=>e = .returned (J Y ((none:Option Int).getD 0))/\Below w.heap.size (Jct ⟨b,off,none⟩ none w) w':=by
 simpa [Jct] using Jse b off f n w hc hf
theorem Jax {w w1 w2:World} {p:Addr} {o:Option Int} (h1:Below w.heap.size w w1) (h2:Below w1.heap.size (Jct p o w1) w2):Below w.heap.size (Jct p o w) w2:=by
 have hs:=h1.size
 cases o with
 | none=>exact (Jcw h1).trans (h2.mono hs)
 | some n=>exact h1.trans (h2.mono hs)
theorem Jsx (b off:Nat) (f:Bool) (x y:Int) (w:World) (hc:w.cell? ⟨b,off,none⟩ = some (.bool f)) (hf:w.frozen? ⟨b,off,none⟩ = false) :
  Calls Tryz.prog 108 #[.pointer (some ⟨b,off,none⟩),J Y x,J Y y] w fun e w'=>e = .returned (J Y ((add x y).getD 0))/\Below w.heap.size (Jct ⟨b,off,none⟩ (add x y) w) w':=by
 have C1:=Jlw x y w
 have hb:=Jg w (.cells #[J Y x,J Y y] 3)
 have hc':=Jh hb hc
 have hf':=Ji hb hc hf
 cases hg:(great x || great y)
 ·have hadd:add x y = Fx.told (x + y):=by simp [add,hg]
  rw [hadd]
  rw [hg] at C1
  have hx:-4611686018427387903 <= x/\x <= 4611686018427387903:=(not_great x).1 (by simp at hg;exact hg.1)
  have hy:-4611686018427387903 <= y/\y <= 4611686018427387903:=(not_great y).1 (by simp at hg;exact hg.2)
  have C2:Hid _:=Jdn b off f (x + y) _ hc' hf'
  have K1:Hid _:=C1
  have HB:Hid _:=hb
  clear C1 hb hc hf hc' hf' hg hadd
  go_enter func108,ntmps108
  go_wp2_with (first | (go_at_call 119;refine (JA K1.out ?_);rintro e w' ⟨rfl,rfl⟩) | (go_at_call 121;refine (JA C2.out ?_);rintro e w' ⟨rfl,hb2⟩))
  go_ret
  exact ⟨rfl,Jax HB.out hb2⟩
 ·have hadd:add x y = none:=by simp only [add,hg,if_true]
  rw [hadd]
  rw [hg] at C1
  have C2:Hid _:=Jcb b off f _ hc' hf'
  have K1:Hid _:=C1
  have HB:Hid _:=Jcw (p:=⟨b,off,none⟩) (v:=.bool true) hb
  clear C1 hb hc hf hc' hf' hg hadd
  go_enter func108,ntmps108
  go_wp2_with (first | (go_at_call 119;refine (JA K1.out ?_);rintro e w' ⟨rfl,rfl⟩) | (go_at_call 120;refine (JA C2.out ?_);rintro e w' ⟨rfl,rfl⟩))
  go_ret
  exact ⟨rfl,HB.out⟩
end
section
open Go.RowKit Fx
theorem Jr {w w1 w2:World} (h1:Below w.heap.size w w1) (h2:Below w1.heap.size w1 w2):Below w.heap.size w w2:=h1.trans (h2.mono h1.size)
theorem Jic {x y:Int} (hx:-4611686018427387903 <= x/\x <= 4611686018427387903) (hy:-4611686018427387903 <= y/\y <= 4611686018427387903):-21267647932558653966460912964485513216 < x * y/\x * y < 21267647932558653966460912964485513216:=by
 have a:(x * y).natAbs <= 4611686018427387903 * 4611686018427387903:=by rw [Int.natAbs_mul];exact Nat.mul_le_mul (by omega) (by omega)
 omega
theorem Jsf (b off:Nat) (f:Bool) (x y:Int) (w:World) (hc:w.cell? ⟨b,off,none⟩ = some (.bool f)) (hf:w.frozen? ⟨b,off,none⟩ = false) :
  Calls Tryz.prog 75 #[.pointer (some ⟨b,off,none⟩),J Y x,J Y y] w fun e w'=>e = .returned (J Y ((mul x y).getD 0))/\Below w.heap.size (Jct ⟨b,off,none⟩ (mul x y) w) w':=by
 have C1:=Jlw x y w
 have hb:=Jg w (.cells #[J Y x,J Y y] 3)
 have hc':=Jh hb hc
 have hf':=Ji hb hc hf
 cases hg:(great x || great y)
 ·have hx:-4611686018427387903 <= x/\x <= 4611686018427387903:=(not_great x).1 (by simp at hg;exact hg.1)
  have hy:-4611686018427387903 <= y/\y <= 4611686018427387903:=(not_great y).1 (by simp at hg;exact hg.2)
  rw [hg] at C1
  have K1:Hid _:=C1
  have HB:Hid _:=hb
  have HC:Hid _:=hc
  have HF:Hid _:=hf
  have hp:=Jic hx hy
  have C3:Hid _:=fun w=>Jdc x y w (by omega) (by omega) (by omega) (by omega)
  have C4:=fun w=>Jiu (x * y) w (by omega) (by omega)
  by_cases hfit:-9223372036854775808 <= x * y / 4294967296/\x * y / 4294967296 < 9223372036854775808
  ·have hmul:mul x y = Fx.told (x * y / 4294967296):=by simp only [mul,hg];rfl
   rw [hmul]
   rw [IntWalk.wrap64_in _ (by omega),decide_eq_true hfit] at C4
   have K4:Hid _:=C4
   clear C1 hb hc hf hc' hf' hg hmul C4 hfit hp
   go_enter func75,ntmps75
   go_wp2_with (first
    | (go_at_call 119;refine (JA K1.out ?_);rintro e w' ⟨rfl,rfl⟩)
    | (go_at_call 122;refine (JA (C3.out _) ?_);rintro e w1 ⟨rfl,hb1⟩;have B1:Hid _:=Jr HB.out hb1)
    | (go_at_call 123;refine (JA (K4.out _) ?_);rintro e w2 ⟨rfl,hb2⟩;have B2:Hid _:=Jr B1.out hb2)
    | (go_at_call 121;refine (JA (Jdn b off f _ _ (Jh B2.out HC.out) (Ji B2.out HC.out HF.out)) ?_);rintro e w3 ⟨rfl,hb3⟩))
   go_ret
   exact ⟨rfl,Jax B2.out hb3⟩
  ·have hmul:mul x y = none:=by
    have hgr:great (x * y / 4294967296) = true:=by rw [great_iff];omega
    simp only [mul,hg,Fx.told,hgr];rfl
   rw [hmul]
   rw [decide_eq_false hfit] at C4
   have K4:Hid _:=C4
   clear C1 hb hc hf hc' hf' hg hmul C4 hfit hp
   go_enter func75,ntmps75
   go_wp2_with (first
    | (go_at_call 119;refine (JA K1.out ?_);rintro e w' ⟨rfl,rfl⟩)
    | (go_at_call 122;refine (JA (C3.out _) ?_);rintro e w1 ⟨rfl,hb1⟩;have B1:Hid _:=Jr HB.out hb1)
    | (go_at_call 123;refine (JA (K4.out _) ?_);rintro e w2 ⟨rfl,hb2⟩;have B2:Hid _:=Jr B1.out hb2)
    | (go_at_call 121;refine (JA (Jcl b off f _ _ (Jh B2.out HC.out) (Ji B2.out HC.out HF.out)) ?_);rintro e w3 ⟨rfl,hb3⟩))
   go_ret
   exact ⟨rfl,Jax B2.out hb3⟩
 ·have hmul:mul x y = none:=by simp only [mul,hg,if_true]
  rw [hmul]
  rw [hg] at C1
  have C2:Hid _:=Jcb b off f _ hc' hf'
  have K1:Hid _:=C1
  have HB:Hid _:=Jcw (p:=⟨b,off,none⟩) (v:=.bool true) hb
  clear C1 hb hc hf hc' hf' hg hmul
  go_enter func75,ntmps75
  go_wp2_with (first | (go_at_call 119;refine (JA K1.out ?_);rintro e w' ⟨rfl,rfl⟩) | (go_at_call 120;refine (JA C2.out ?_);rintro e w' ⟨rfl,rfl⟩))
  go_ret
  exact ⟨rfl,HB.out⟩
theorem Jpd (b off:Nat) (f:Bool) (x y z:Int) (w:World) (hc:w.cell? ⟨b,off,none⟩ = some (.bool f)) (hf:w.frozen? ⟨b,off,none⟩ = false) :
  Calls Tryz.prog 143 #[.pointer (some ⟨b,off,none⟩),J Y x,J Y y,J Y z] w fun e w'=>e = .returned (J Y ((Ju x y z).getD 0))/\Below w.heap.size (Jct ⟨b,off,none⟩ (Ju x y z) w) w':=by
 by_cases hz:z = 0
 ·have hr:Ju x y z = none:=by simp only [Ju,hz,if_true]
  rw [hr]
  have C2:Hid _:=Jcb b off f _ hc hf
  have hz':(z == 0) = true:=by simp [hz]
  clear hc hf hz hr
  go_enter func143,ntmps143
  go_wp2_with (first | (go_at_call 120;refine (JA C2.out ?_);rintro e w' ⟨rfl,rfl⟩))
  go_ret
  exact ⟨rfl,Below.refl _ _⟩
 have hz':(z == 0) = false:=by simp [hz]
 have C1:=Jty x y z w
 have hb:=Jg w (.cells #[J Y x,J Y y,J Y z] 3)
 have hc':=Jh hb hc
 have hf':=Ji hb hc hf
 cases hg:(great x || (great y || great z))
 ·have hg3:great x = false/\great y = false/\great z = false:=by simpa using hg
  have hx:-4611686018427387903 <= x/\x <= 4611686018427387903:=(not_great x).1 hg3.1
  have hy:-4611686018427387903 <= y/\y <= 4611686018427387903:=(not_great y).1 hg3.2.1
  have hzz:-4611686018427387903 <= z/\z <= 4611686018427387903:=(not_great z).1 hg3.2.2
  rw [hg] at C1
  have K1:Hid _:=C1
  have HB:Hid _:=hb
  have HC:Hid _:=hc
  have HF:Hid _:=hf
  have hp:=Jic hx hy
  have C3:Hid _:=fun w=>Jdc x y w (by omega) (by omega) (by omega) (by omega)
  obtain ⟨Z,hZ⟩:∃ Z,(0 <= x * y/\Z = x * y) \/ (x * y < 0/\Z = -(x * y)):=by
   by_cases h:0 <= x * y
   ·exact ⟨_,Or.inl ⟨h,rfl⟩⟩
   ·exact ⟨_,Or.inr ⟨by omega,rfl⟩⟩
  obtain ⟨d,hd⟩:∃ d,(0 < z/\d = z) \/ (z < 0/\d = -z):=by
   by_cases h:0 < z
   ·exact ⟨_,Or.inl ⟨h,rfl⟩⟩
   ·exact ⟨_,Or.inr ⟨by omega,rfl⟩⟩
  by_cases hfit:Z / d <= 4611686018427387903
  ·have hr:Ju x y z = Fx.told (fl (x * y) z):=by simp only [Ju,hg,hz];rfl
   rw [hr]
   have K4:Hid _:=fun w=>Jtp (x * y) z Z d w (by omega) (by omega) hZ hd (by omega) hfit
   clear C1 hb hc hf hc' hf' hg hr hfit hp hZ hd hg3 hz
   go_enter func143,ntmps143
   go_wp2_with (first
    | (go_at_call 119;refine (JA K1.out ?_);rintro e w' ⟨rfl,rfl⟩)
    | (go_at_call 122;refine (JA (C3.out _) ?_);rintro e w1 ⟨rfl,hb1⟩;have B1:Hid _:=Jr HB.out hb1)
    | (go_at_call 158;refine (JA (K4.out _) ?_);rintro e w2 ⟨rfl,hb2⟩;have B2:Hid _:=Jr B1.out hb2)
    | (go_at_call 121;refine (JA (Jdn b off f _ _ (Jh B2.out HC.out) (Ji B2.out HC.out HF.out)) ?_);rintro e w3 ⟨rfl,hb3⟩))
   go_ret
   exact ⟨rfl,Jax B2.out hb3⟩
  ·have hr:Ju x y z = none:=by
    have hgr:great (fl (x * y) z) = true:=by
     rw [great_iff]
     have hd0:0 < d:=by omega
     have hn:=neg_div (T:=Z) hd0
     unfold fl
     rcases hZ with ⟨a,rfl⟩ | ⟨a,e⟩ <;> rcases hd with ⟨g,rfl⟩ | ⟨g,rfl⟩
     ·rw [if_neg (by omega)];omega
     ·rw [if_pos (by omega),hn];split <;> omega
     ·rw [if_neg (by omega),show x * y = -Z by omega,hn];split <;> omega
     ·rw [if_pos (by omega),<- e];omega
    simp only [Ju,hz,hg,Fx.told,hgr];rfl
   rw [hr]
   have K4:Hid _:=fun w=>Jsa (x * y) z Z d w (by omega) (by omega) hZ hd (by omega) (by omega)
   clear C1 hb hc hf hc' hf' hg hr hfit hp hZ hd hg3 hz
   go_enter func143,ntmps143
   go_wp2_with (first
    | (go_at_call 119;refine (JA K1.out ?_);rintro e w' ⟨rfl,rfl⟩)
    | (go_at_call 122;refine (JA (C3.out _) ?_);rintro e w1 ⟨rfl,hb1⟩;have B1:Hid _:=Jr HB.out hb1)
    | (go_at_call 158;refine (JA (K4.out _) ?_);rintro e w2 ⟨rfl,hb2⟩;have B2:Hid _:=Jr B1.out hb2)
    | (go_at_call 121;refine (JA (Jcl b off f _ _ (Jh B2.out HC.out) (Ji B2.out HC.out HF.out)) ?_);rintro e w3 ⟨rfl,hb3⟩))
   go_ret
   exact ⟨rfl,Jax B2.out hb3⟩
 ·have hr:Ju x y z = none:=by simp only [Ju,hz,hg,if_true,if_false]
  rw [hr]
  rw [hg] at C1
  have C2:Hid _:=Jcb b off f _ hc' hf'
  have K1:Hid _:=C1
  have HB:Hid _:=Jcw (p:=⟨b,off,none⟩) (v:=.bool true) hb
  clear C1 hb hc hf hc' hf' hg hr hz
  go_enter func143,ntmps143
  go_wp2_with (first | (go_at_call 119;refine (JA K1.out ?_);rintro e w' ⟨rfl,rfl⟩) | (go_at_call 120;refine (JA C2.out ?_);rintro e w' ⟨rfl,rfl⟩))
  go_ret
  exact ⟨rfl,HB.out⟩
theorem Jr1 (b off:Nat) (f:Bool) (x y:Int) (w:World) (hc:w.cell? ⟨b,off,none⟩ = some (.bool f)) (hf:w.frozen? ⟨b,off,none⟩ = false) :
  Calls Tryz.prog 115 #[.pointer (some ⟨b,off,none⟩),J Y x,J Y y] w fun e w'=>e = .returned (J Y ((Ju x 4294967296 y).getD 0))/\Below w.heap.size (Jct ⟨b,off,none⟩ (Ju x 4294967296 y) w) w':=by
 have C:Hid _:=Jpd b off f x 4294967296 y w hc hf
 clear hc hf
 go_enter func115,ntmps115
 go_wp2_with (go_at_call 143;refine (JA C.out ?_);rintro e w' ⟨rfl,hb⟩)
 go_ret
 exact ⟨rfl,hb⟩
theorem Jry (b off:Nat) (f:Bool) (x y:Int) (w:World) (hc:w.cell? ⟨b,off,none⟩ = some (.bool f)) (hf:w.frozen? ⟨b,off,none⟩ = false) :
  Calls Tryz.prog 113 #[.pointer (some ⟨b,off,none⟩),J Y x,J Y y] w fun e w'=>e = .returned (J Y ((sub x y).getD 0))/\Below w.heap.size (Jct ⟨b,off,none⟩ (sub x y) w) w':=by
 have C1:=Jlw x y w
 have hb:=Jg w (.cells #[J Y x,J Y y] 3)
 have hc':=Jh hb hc
 have hf':=Ji hb hc hf
 cases hg:(great x || great y)
 ·have hsub:sub x y = Fx.told (x - y):=by simp [sub,hg]
  rw [hsub]
  rw [hg] at C1
  have hx:-4611686018427387903 <= x/\x <= 4611686018427387903:=(not_great x).1 (by simp at hg;exact hg.1)
  have hy:-4611686018427387903 <= y/\y <= 4611686018427387903:=(not_great y).1 (by simp at hg;exact hg.2)
  have C2:Hid _:=Jdn b off f (x - y) _ hc' hf'
  have K1:Hid _:=C1
  have HB:Hid _:=hb
  clear C1 hb hc hf hc' hf' hg hsub
  go_enter func113,ntmps113
  go_wp2_with (first | (go_at_call 119;refine (JA K1.out ?_);rintro e w' ⟨rfl,rfl⟩) | (go_at_call 121;refine (JA C2.out ?_);rintro e w' ⟨rfl,hb2⟩))
  go_ret
  exact ⟨rfl,Jax HB.out hb2⟩
 ·have hsub:sub x y = none:=by simp only [sub,hg,if_true]
  rw [hsub]
  rw [hg] at C1
  have C2:Hid _:=Jcb b off f _ hc' hf'
  have K1:Hid _:=C1
  have HB:Hid _:=Jcw (p:=⟨b,off,none⟩) (v:=.bool true) hb
  clear C1 hb hc hf hc' hf' hg hsub
  go_enter func113,ntmps113
  go_wp2_with (first | (go_at_call 119;refine (JA K1.out ?_);rintro e w' ⟨rfl,rfl⟩) | (go_at_call 120;refine (JA C2.out ?_);rintro e w' ⟨rfl,rfl⟩))
  go_ret
  exact ⟨rfl,HB.out⟩
end
section
open Go.RowKit Fx
theorem Jsy (b off:Nat) (f:Bool) (zs:List Int) (bl ol cap:Nat) (w:World) (hc:w.cell? ⟨b,off,none⟩ = some (.bool f)) (hf:w.frozen? ⟨b,off,none⟩ = false)
  (hlen:zs.length <= 4611686018427387904) (hl:∀ k,k < zs.length->w.cell? ⟨bl,ol + k,none⟩ = some (J Y (zs.getD k 0))) (hno:8 < zs.length \/ zs.any great = true) :
  Calls Tryz.prog 116 #[.pointer (some ⟨b,off,none⟩),.slice (some ⟨bl,ol,none⟩) zs.length cap] w fun e w'=>e = .returned (J Y 0)/\w' = w.setCell ⟨b,off,none⟩ (.bool true):=by
 have C2:Hid _:=Jcb b off f w hc hf
 have C1:=Jcv zs bl ol cap w hlen hl
 clear hl hc hf
 by_cases h8:8 < zs.length
 ·clear C1 hno
  go_enter func116,ntmps116
  go_wp2_with (first | (go_at_call 120;refine (JA C2.out ?_);rintro e w' ⟨rfl,rfl⟩))
  go_ret
  exact ⟨rfl,rfl⟩
 ·have hg:zs.any great = true:=hno.resolve_left h8
  rw [hg] at C1
  have K1:Hid _:=C1
  clear C1 hno hg
  go_enter func116,ntmps116
  go_wp2_with (first | (go_at_call 119;refine (JA K1.out ?_);rintro e w' ⟨rfl,rfl⟩) | (go_at_call 120;refine (JA C2.out ?_);rintro e w' ⟨rfl,rfl⟩))
  go_ret
  exact ⟨rfl,rfl⟩
theorem Jnq {w wr w1 w2:World} {u0 u1:Value} (v0 v1:Value) (HB:Below w.heap.size w wr) (hsz:w.heap.size < wr.heap.size) (hb1:Below wr.drew.heap.size wr.drew w1) (hb2:Below w1.heap.size w1 w2)
  (r0:w2.cell? ⟨w.heap.size,0,none⟩ = some u0) (r1:w2.cell? ⟨w.heap.size,1,none⟩ = some u1) (s0:w2.frozen? ⟨w.heap.size,0,none⟩ = false) (s1:w2.frozen? ⟨w.heap.size,1,none⟩ = false) :
  Below w.heap.size w ((w2.setCell ⟨w.heap.size,0,none⟩ v0).setCell ⟨w.heap.size,1,none⟩ v1)/\w.heap.size < ((w2.setCell ⟨w.heap.size,0,none⟩ v0).setCell ⟨w.heap.size,1,none⟩ v1).heap.size /\
  ((w2.setCell ⟨w.heap.size,0,none⟩ v0).setCell ⟨w.heap.size,1,none⟩ v1).cell? ⟨w.heap.size,0,none⟩ = some v0/\((w2.setCell ⟨w.heap.size,0,none⟩ v0).setCell ⟨w.heap.size,1,none⟩ v1).cell? ⟨w.heap.size,1,none⟩ = some v1 /\
  ((w2.setCell ⟨w.heap.size,0,none⟩ v0).setCell ⟨w.heap.size,1,none⟩ v1).frozen? ⟨w.heap.size,0,none⟩ = false/\((w2.setCell ⟨w.heap.size,0,none⟩ v0).setCell ⟨w.heap.size,1,none⟩ v1).frozen? ⟨w.heap.size,1,none⟩ = false:=by
 have a1:Below w.heap.size w w1:=(HB.drew).trans (hb1.mono (by simp;omega))
 have a2:=Jr a1 hb2
 have h1:=hb1.size
 have h2:=hb2.size
 simp at h1
 refine ⟨(a2.setCell (Nat.le_refl _) _).setCell (Nat.le_refl _) _,?_,?_,?_,?_,?_⟩
 ·simp;omega
 ·simp [go_sem,r0]
 ·simp [go_sem,r1]
 ·simp [go_sem,s0]
 ·simp [go_sem,s1]
theorem Jrg (b off:Nat) (f:Bool) (zs:List Int) (bl ol cap:Nat) (w:World) (hc:w.cell? ⟨b,off,none⟩ = some (.bool f)) (hf:w.frozen? ⟨b,off,none⟩ = false)
  (hl:∀ k,k < zs.length->w.cell? ⟨bl,ol + k,none⟩ = some (J Y (zs.getD k 0))) (hlen:zs.length <= 8) (hg:zs.any great = false) :
  Calls Tryz.prog 116 #[.pointer (some ⟨b,off,none⟩),.slice (some ⟨bl,ol,none⟩) zs.length cap] w fun e w'=>e = .returned (J Y ((Fx.told (isq (Jad zs zs).toNat)).getD 0))/\Below w.heap.size (Jct ⟨b,off,none⟩ (Fx.told (isq (Jad zs zs).toNat)) w) w':=by
 obtain ⟨S,hS⟩:∃ S,S = Jad zs zs:=⟨_,rfl⟩
 rw [<- hS]
 have hb:=Jdb zs zs hg hg
 have hs:=Jd0 zs
 rw [<- hS] at hb hs
 have hS1:S < 170141183460469231731687303715884105728:=by omega
 have C4:=fun w=>Jrc S w hs hS1
 have HS0:Hid _:=hS
 clear hb hS hS1 hs
 have C1:=Jcv zs bl ol cap w (by omega) hl
 rw [hg] at C1
 have K1:Hid _:=C1
 have K0:Hid _:=C4
 clear C4
 have HC:Hid _:=hc
 have HF:Hid _:=hf
 have HL:Hid _:=hl
 have HG:Hid _:=hg
 clear C1 hc hf hl hg
 go_enter func116,ntmps116
 go_wp2_with (first | (go_at_call 119;refine (JA K1.out ?_);rintro e w' ⟨rfl,hw⟩;rw [hw];clear hw))
 go_loopw [19] (fun i wr=>∃ (k:Nat) (X:Int),k <= zs.length/\i = J Y k/\Hid (X = Jad (zs.take k) (zs.take k))/\Hid (Below w.heap.size w wr)/\w.heap.size < wr.heap.size/\wr.cell? ⟨w.heap.size,0,none⟩ = some (.int .u64 (X / 18446744073709551616 % 18446744073709551616))/\wr.cell? ⟨w.heap.size,1,none⟩ = some (.int .u64 (X % 18446744073709551616))/\wr.frozen? ⟨w.heap.size,0,none⟩ = false/\wr.frozen? ⟨w.heap.size,1,none⟩ = false) (fun i _=>zs.length - (intOf i).toNat)
 case atStart=>exact ⟨0,0,Nat.zero_le _,rfl,by simp [Hid,Jad],Jg _ _,by simp,by simp,by simp,by simp,by simp⟩
 case round =>
  obtain ⟨k,X,hk,rfl,HX,HB,hsz,d0,d1,f0,f1⟩:=hrel
  by_cases hlt:k < zs.length
  ·have hcell:=Jh HB.out (HL.out k hlt)
   have hz:=(not_great _).1 (Jcz HG.out hlt)
   have HS:Hid _:=Jd5 k zs zs hlt hlt
   obtain ⟨z,ez⟩:∃ z,zs.getD k 0 = z:=⟨_,rfl⟩
   rw [ez] at hcell hz HS
   clear ez
   have C3:Hid _:=fun w=>Jdc z z w (by omega) (by omega) (by omega) (by omega)
   have C4:Hid _:=fun w=>Jkg X (z * z) w
   obtain ⟨xh,hxh⟩:∃ u,u = X / 18446744073709551616 % 18446744073709551616:=⟨_,rfl⟩
   obtain ⟨xl,hxl⟩:∃ u,u = X % 18446744073709551616:=⟨_,rfl⟩
   rw [<- hxh] at d0
   rw [<- hxl] at d1
   rw [<- hxh,<- hxl] at C4
   clear hxh hxl
   go_wp2
   go_region_with (first
    | (go_at_call 122;refine (JA (C3.out _) ?_);rintro e w1 ⟨rfl,hb1⟩;have p0:=Jh hb1 d0;have p1:=Jh hb1 d1;have q0:=Ji hb1 d0 f0;have q1:=Ji hb1 d1 f1;have hs1:=hb1.size)
    | (go_at_call 142;refine (JA (C4.out _) ?_);rintro e w2 ⟨rfl,hb2⟩;have r0:=Jh hb2 p0;have r1:=Jh hb2 p1;have s0:=Ji hb2 p0 q0;have s1:=Ji hb2 p1 q1;have hs2:=hb2.size))
   all_goals go_wp2
   all_goals go_roundw
   all_goals try (case rel=>obtain ⟨m1,m2,m3,m4,m5,m6⟩:=Jnq (.int .u64 ((X + z * z) / 18446744073709551616 % 18446744073709551616)) (.int .u64 ((X + z * z) % 18446744073709551616)) HB.out hsz hb1 hb2 r0 r1 s0 s1;exact ⟨k + 1,X + z * z,by omega,by go_num,by show _ = _;rw [HS.out,HX.out],m1,m2,m3,m4,m5,m6⟩)
   all_goals try (case measure=>simp [intOf];omega)
  ·obtain rfl:k = zs.length:=by omega
   obtain rfl:X = S:=by have:=HX.out;rw [List.take_length] at this;rw [this,HS0.out]
   have C4:=K0.out
   clear K0 HX HS0 hk hlt
   have hisq0:(0:Int) <= (isq X.toNat:Int):=by omega
   obtain ⟨xh,hxh⟩:∃ u,u = X / 18446744073709551616 % 18446744073709551616:=⟨_,rfl⟩
   obtain ⟨xl,hxl⟩:∃ u,u = X % 18446744073709551616:=⟨_,rfl⟩
   rw [<- hxh] at d0
   rw [<- hxl] at d1
   rw [<- hxh,<- hxl] at C4
   clear hxh hxl
   have HB':=HB.out
   by_cases hfit:(isq X.toNat:Int) <= 4611686018427387903
   ·rw [IntWalk.wrap64_in _ (by omega),decide_eq_true hfit] at C4
    have K4:Hid _:=C4
    clear C4 hfit hisq0
    go_wp2_with (first
     | (go_at_call 144;refine (JA (K4.out _) ?_);rintro e w2 ⟨rfl,hb2⟩;have B2:Hid _:=Jr HB.out hb2)
     | (go_at_call 121;refine (JA (Jdn b off f _ _ (Jh B2.out HC.out) (Ji B2.out HC.out HF.out)) ?_);rintro e w3 ⟨rfl,hb3⟩))
    go_ret
    exact ⟨rfl,Jax B2.out hb3⟩
   ·have ht:Fx.told (isq X.toNat) = none:=by
     have hgr:great (isq X.toNat) = true:=by rw [great_iff];omega
     simp only [Fx.told,hgr];rfl
    rw [decide_eq_false hfit] at C4
    have K4:Hid _:=C4
    have HT:Hid _:=ht
    clear C4 hfit hisq0 ht
    go_wp2_with (first
     | (go_at_call 144;refine (JA (K4.out _) ?_);rintro e w2 ⟨rfl,hb2⟩;have B2:Hid _:=Jr HB.out hb2)
     | (go_at_call 121;refine (JA (Jcl b off f _ _ (Jh B2.out HC.out) (Ji B2.out HC.out HF.out)) ?_);rintro e w3 ⟨rfl,hb3⟩))
    go_ret
    rw [HT.out]
    exact ⟨rfl,Jax B2.out hb3⟩
theorem Jra (b off:Nat) (f:Bool) (zs:List Int) (bl ol cap:Nat) (w:World) (hc:w.cell? ⟨b,off,none⟩ = some (.bool f)) (hf:w.frozen? ⟨b,off,none⟩ = false)
  (hl:∀ k,k < zs.length->w.cell? ⟨bl,ol + k,none⟩ = some (J Y (zs.getD k 0))) (hlen:zs.length <= 4611686018427387904) :
  Calls Tryz.prog 116 #[.pointer (some ⟨b,off,none⟩),.slice (some ⟨bl,ol,none⟩) zs.length cap] w fun e w'=>e = .returned (J Y ((Jae zs).getD 0))/\Below w.heap.size (Jct ⟨b,off,none⟩ (Jae zs) w) w':=by
 by_cases h:8 < zs.length \/ zs.any great = true
 ·have hn:Jae zs = none:=by
   unfold Jae
   rcases h with h | h
   ·rw [if_pos h]
   ·simp only [h,if_true,ite_self]
  rw [hn]
  exact (Jsy b off f zs bl ol cap w hc hf hlen hl h).mono fun e w' ⟨a,c⟩=>⟨a,by rw [c];exact Below.refl _ _⟩
 ·have h8:¬ 8 < zs.length:=fun g=>h (Or.inl g)
  have hg:zs.any great = false:=by cases e:zs.any great with
   | false=>rfl
   | true=>exact absurd (Or.inr e) h
  have hn:Jae zs = Fx.told (isq (Jad zs zs).toNat):=by unfold Jae;simp only [h8,hg,if_false];rfl
  rw [hn]
  exact Jrg b off f zs bl ol cap w hc hf hl (by omega) hg
end
section
open Go.RowKit Fx
def Ja7 (f:Bool) (o:Option Int) (v:Int) (g:Bool):Prop:=v = o.getD 0/\g = (f || o.isNone)
structure After (p:Addr) (g:Bool) (W W':World):Prop where
 cell:W'.cell? p = some (.bool g)
 frozen:W'.frozen? p = false
 size:W.heap.size <= W'.heap.size
 other:∀ q:Addr,q.block < W.heap.size->q.block ≠ p.block->W'.cell? q = W.cell? q/\W'.frozen? q = W.frozen? q
 below:∀ (B:Nat) (w:World),Below B w W->B <= p.block->B <= W.heap.size->Below B w W'
 kept:W'.os = W.os/\W'.tape = W.tape/\W'.output = W.output/\∀ k,k < W.heap.size->k ≠ p.block->W'.heap[k]? = W.heap[k]?
 beside:p.block < W.heap.size->∀ o,o ≠ p.off->W'.cell? ⟨p.block,o,none⟩ = W.cell? ⟨p.block,o,none⟩/\W'.frozen? ⟨p.block,o,none⟩ = W.frozen? ⟨p.block,o,none⟩
theorem After.cellOf {p q:Addr} {g:Bool} {W W':World} (h:After p g W W') {v:Value} (hq:W.cell? q = some v) (hne:q.block ≠ p.block):W'.cell? q = some v:=(h.other q (JB _ _ hq) hne).1.trans hq
theorem After.frozenOf {p q:Addr} {g:Bool} {W W':World} (h:After p g W W') {v:Value} (hq:W.cell? q = some v) (hf:W.frozen? q = false) (hne:q.block ≠ p.block):W'.frozen? q = false:=(h.other q (JB _ _ hq) hne).2.trans hf
theorem After.on {w W W':World} {p:Addr} {g:Bool} (h:After p g W W') (hb:Below w.heap.size w W) (hp:w.heap.size <= p.block):Below w.heap.size w W':=h.below _ _ hb hp hb.size
theorem Jb9 {b off:Nat} {f:Bool} {o:Option Int} {W W':World} (hb:Below W.heap.size (Jct ⟨b,off,none⟩ o W) W') (hc:W.cell? ⟨b,off,none⟩ = some (.bool f)) (hf:W.frozen? ⟨b,off,none⟩ = false) :
  After ⟨b,off,none⟩ (f || o.isNone) W W':=by
 have hlt:=JB _ _ hc
 cases o with
 | some n =>
  have hb:Below W.heap.size W W':=hb
  refine ⟨by rw [hb.cell hlt,hc];simp,by rw [hb.frozen hlt,hf],hb.size,fun q hq _=>⟨hb.cell hq,hb.frozen hq⟩,fun B w h _ hB=>h.trans (hb.mono hB),⟨hb.os,hb.tape,hb.output,fun k hk _=>hb.block k hk⟩,fun hp o _=>⟨hb.cell hp,hb.frozen hp⟩⟩
 | none =>
  have hb:Below W.heap.size (W.setCell ⟨b,off,none⟩ (.bool true)) W':=hb
  have hs:=hb.size
  simp [World.setCell] at hs
  refine ⟨?_,?_,by simpa using hs,fun q hq hne=>⟨?_,?_⟩,fun B w h hp hB=>(h.setCell hp _).trans (hb.mono hB),⟨hb.os,hb.tape,hb.output,fun k hk hne=>(hb.block k hk).trans (Below.heap_setCell _ _ _ _ hne)⟩,fun hp o ho=>⟨?_,?_⟩⟩
  ·rw [hb.cell hlt];simp [go_sem,hc]
  ·rw [hb.frozen hlt];simp [go_sem,hf]
  ·rw [hb.cell hq];exact World.cell?_of_block (w:=W) (Below.heap_setCell _ _ _ _ hne)
  ·rw [hb.frozen hq];exact World.frozen?_of_block (w:=W) (Below.heap_setCell _ _ _ _ hne)
  ·exact (hb.cell (p:=⟨b,o,none⟩) hlt).trans (World.cell?_setCell_other _ _ _ _ (fun e=>ho (Addr.mk.inj e).2.1.symm))
  ·exact (hb.frozen (p:=⟨b,o,none⟩) hlt).trans (by simp [go_sem])
theorem Jn9 (b off:Nat) (f:Bool) (x y:Int) (W:World) (hc:W.cell? ⟨b,off,none⟩ = some (.bool f)) (hf:W.frozen? ⟨b,off,none⟩ = false) :
  Calls Tryz.prog 108 #[.pointer (some ⟨b,off,none⟩),J Y x,J Y y] W fun e W'=>∃ v g,e = .returned (J Y v)/\Hid (Ja7 f (add x y) v g)/\Hid (After ⟨b,off,none⟩ g W W'):=
 (Jsx b off f x y W hc hf).mono fun _ _ ⟨a,h⟩=>⟨_,_,a,⟨rfl,rfl⟩,Jb9 h hc hf⟩
theorem Jfn (b off:Nat) (f:Bool) (x y:Int) (W:World) (hc:W.cell? ⟨b,off,none⟩ = some (.bool f)) (hf:W.frozen? ⟨b,off,none⟩ = false) :
  Calls Tryz.prog 113 #[.pointer (some ⟨b,off,none⟩),J Y x,J Y y] W fun e W'=>∃ v g,e = .returned (J Y v)/\Hid (Ja7 f (sub x y) v g)/\Hid (After ⟨b,off,none⟩ g W W'):=
 (Jry b off f x y W hc hf).mono fun _ _ ⟨a,h⟩=>⟨_,_,a,⟨rfl,rfl⟩,Jb9 h hc hf⟩
theorem Jrz (b off:Nat) (f:Bool) (x y:Int) (W:World) (hc:W.cell? ⟨b,off,none⟩ = some (.bool f)) (hf:W.frozen? ⟨b,off,none⟩ = false) :
  Calls Tryz.prog 75 #[.pointer (some ⟨b,off,none⟩),J Y x,J Y y] W fun e W'=>∃ v g,e = .returned (J Y v)/\Hid (Ja7 f (mul x y) v g)/\Hid (After ⟨b,off,none⟩ g W W'):=
 (Jsf b off f x y W hc hf).mono fun _ _ ⟨a,h⟩=>⟨_,_,a,⟨rfl,rfl⟩,Jb9 h hc hf⟩
theorem Jn8 (b off:Nat) (f:Bool) (x y:Int) (W:World) (hc:W.cell? ⟨b,off,none⟩ = some (.bool f)) (hf:W.frozen? ⟨b,off,none⟩ = false) :
  Calls Tryz.prog 115 #[.pointer (some ⟨b,off,none⟩),J Y x,J Y y] W fun e W'=>∃ v g,e = .returned (J Y v)/\Hid (Ja7 f (Ju x 4294967296 y) v g)/\Hid (After ⟨b,off,none⟩ g W W'):=
 (Jr1 b off f x y W hc hf).mono fun _ _ ⟨a,h⟩=>⟨_,_,a,⟨rfl,rfl⟩,Jb9 h hc hf⟩
end
end Go.Proofs.YteebbpioffdncaaGreat
