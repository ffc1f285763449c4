/- The quotient of a number of 128 bits by one of 62, down (package fx, wide.by). -/
import Derived.Test.YtpjaacpcdomfiaaGreatSBTells0
import Derived.Deep.RegionWith
import Derived.RowKit
import Derived.RangeFuncBox
import Derived.Shelf.Abstract
import Derived.WalkKit
import Derived.OwnWalkIn
import Derived.TacticsInMore
import Derived.LoopNIn
import Derived.LoopIn
import Derived.LoopTactic
import Derived.ProofKit
import Derived.Handy
import Derived.Laws.MakeOwn
import Derived.Laws.OwnMore
import Derived.Maps.AppendAt
import Derived.Deep.QuietTactic
import Derived.BigQuiet
import Derived.Deep.CutBlock
import Derived.Deep.CutRange
import Derived.Deep.LoopGhost
import Derived.Lib.SmallJoins
import Derived.Test.YtpjaacpcdomfiaaGreatProg
set_option maxHeartbeats 2000000
set_option linter.unusedVariables false
namespace Go.Proofs.YtpjaacpcdomfiaaGreat
section
open Go.RowKit Fx
theorem below0_neg (X:Int) (w:World) (h0:-170141183460469231731687303715884105728 <= X) (g:X < 0) :
  Calls Tryz.prog 165 #[.agg #[.int .u64 (X / 18446744073709551616 % 18446744073709551616),.int .u64 (X % 18446744073709551616)]] w fun e w' =>
   e = .returned (.bool true)/\Below w.heap.size w w':=by
 simpa [g] using below0_any X w h0 (by omega)
theorem below0_pos (X:Int) (w:World) (h1:X < 170141183460469231731687303715884105728) (g:0 <= X) :
  Calls Tryz.prog 165 #[.agg #[.int .u64 (X / 18446744073709551616 % 18446744073709551616),.int .u64 (X % 18446744073709551616)]] w fun e w' =>
   e = .returned (.bool false)/\Below w.heap.size w w':=by
 simpa [show ¬ X < 0 by omega] using below0_any X w (by omega) h1
theorem boxed {W w1:World} {u v:Value} {t:TypeId} (hb:Below (W.alloc (.cells #[u,v] t)).heap.size (W.alloc (.cells #[u,v] t)) w1) :
  w1.cell? ⟨W.heap.size,0,none⟩ = some u/\w1.cell? ⟨W.heap.size,1,none⟩ = some v/\W.heap.size < w1.heap.size:=by
 refine ⟨?_,?_,?_⟩
 ·rw [hb.cell (by simp)];simp
 ·rw [hb.cell (by simp)];simp
 ·have:=hb.size;simp at this;omega
theorem by_world {w w1 w3:World} {o o':Obj} {n:Nat} (hb:Below (w.alloc o).heap.size (w.alloc o) w1) (hb3:Below ((w1.alloc o').drewN n).heap.size ((w1.alloc o').drewN n) w3):Below w.heap.size w w3:=by
 have a:Below w.heap.size w (w.alloc o):=(Below.refl _ _).alloc (Nat.le_refl _) _
 have s1:=hb.size
 have b:Below w.heap.size w w1:=a.trans (hb.mono (by simp))
 have c:Below w.heap.size w ((w1.alloc o').drewN n):=below_drewN (b.alloc (by simp at s1;omega) _) n
 exact c.trans (hb3.mono (by simp;simp at s1;omega))
theorem by_any (X c Z d:Int) (w:World) (h0:-170141183460469231731687303715884105728 < X) (h1:X < 170141183460469231731687303715884105728)
  (hZ:(0 <= X/\Z = X) \/ (X < 0/\Z = -X)) (hd:(0 < c/\d = c) \/ (c < 0/\d = -c)) (hc:d <= 4611686018427387903) (hn:Z / d <= 4611686018427387903) :
  Calls Tryz.prog 155 #[.agg #[.int .u64 (X / 18446744073709551616 % 18446744073709551616),.int .u64 (X % 18446744073709551616)],.int .i64 c] w fun e w' =>
   e = .returned (.tuple #[.int .i64 (fl X c),.bool true])/\Below w.heap.size w w':=by
 obtain ⟨xh,hxh⟩:∃ u,u = X / 18446744073709551616 % 18446744073709551616:=⟨_,rfl⟩
 obtain ⟨xl,hxl⟩:∃ u,u = X % 18446744073709551616:=⟨_,rfl⟩
 obtain ⟨zh,hzh⟩:∃ u,u = Z / 18446744073709551616 % 18446744073709551616:=⟨_,rfl⟩
 obtain ⟨zl,hzl⟩:∃ u,u = Z % 18446744073709551616:=⟨_,rfl⟩
 have hd0:0 < d:=by omega
 have hZ0:0 <= Z:=by omega
 have hZe:zh * 18446744073709551616 + zl = Z:=by omega
 obtain ⟨n,hne⟩:∃ n,Z / d = n:=⟨_,rfl⟩
 obtain ⟨r,hre⟩:∃ r,Z % d = r:=⟨_,rfl⟩
 have hn0:0 <= n:=by rw [<- hne];exact Int.ediv_nonneg hZ0 (by omega)
 rw [hne] at hn
 have hzd:zh < d:=by
  have h:=(div_is Z d hd0).2
  rw [hne] at h
  have g:(n + 1) * d <= 4611686018427387904 * d:=Int.mul_le_mul_of_nonneg_right (by omega) (by omega)
  omega
 have hz0:0 <= zh:=by omega
 have hl0:0 <= zl:=by omega
 have hl1:zl < 18446744073709551616:=by omega
 have hr0:0 <= r:=by rw [<- hre];exact Int.emod_nonneg _ (by omega)
 have CS:Hid _:=fun w=>size_any X Z w h0 h1 hZ
 have CD:Hid _:=fun w=>div64_any zh zl d w hz0 hzd hl0 hl1 (by omega)
 have NEG:Hid ((-Z) / d = if r = 0 then -n else -(n + 1)):=by rw [<- hne,<- hre];exact neg_div hd0
 have hdr:Hid (r < d):=by rw [<- hre];exact Int.emod_lt_of_pos _ hd0
 simp only [Hid] at CS CD
 rw [hZe,hne,hre] at CD
 rcases hZ with ⟨gX,eZ⟩ | ⟨gX,eZ⟩
 ·have CB:=fun w=>below0_pos X w h1 gX
  rw [<- hxh,<- hxl] at *
  rw [<- hzh,<- hzl] at CS
  have CS:Hid _:=CS
  have CD:Hid _:=CD
  have CB:Hid _:=CB
  rcases hd with ⟨gc,ed⟩ | ⟨gc,ed⟩
  ·have hfl:fl X c = n:=by unfold fl;rw [if_neg (by omega),<- hne,eZ,ed]
   rw [hfl]
   have hdec:decide (c < 0) = false:=by simp;omega
   subst ed
   clear hxh hxl hzh hzl hZe hne hre eZ hfl h0 h1 NEG
   go_enter Tryz.func155,Tryz.ntmps155
   go_wp2_with (first | (go_at_call 163;refine (CS.out _).mono ?_;rintro e w1 ⟨rfl,hb⟩;obtain ⟨c1,c2,hsz⟩:=boxed hb) | (go_at_call 164;refine (CD.out _).mono ?_;rintro e w2 ⟨rfl,nn,rfl⟩) | (go_at_call 165;refine (CB.out _).mono ?_;rintro e w3 ⟨rfl,hb3⟩))
   go_returns
   exact ⟨rfl,by_world hb hb3⟩
  ·have hfl:fl X c = if r = 0 then -n else -(n + 1):=by unfold fl;rw [if_pos (by omega),<- eZ,<- ed];exact NEG.out
   rw [hfl]
   subst ed
   clear hxh hxl hzh hzl hZe hne hre eZ hfl h0 h1 NEG
   by_cases gr:r = 0
   ·rw [if_pos gr]
    have gr':(r != 0) = false:=by simp [gr]
    clear gr
    go_enter Tryz.func155,Tryz.ntmps155
    go_wp2_with (first | (go_at_call 163;refine (CS.out _).mono ?_;rintro e w1 ⟨rfl,hb⟩;obtain ⟨c1,c2,hsz⟩:=boxed hb) | (go_at_call 164;refine (CD.out _).mono ?_;rintro e w2 ⟨rfl,nn,rfl⟩) | (go_at_call 165;refine (CB.out _).mono ?_;rintro e w3 ⟨rfl,hb3⟩))
    go_returns
    exact ⟨rfl,by_world hb hb3⟩
   ·rw [if_neg gr]
    have gr':(r != 0) = true:=by simp [gr]
    clear gr
    go_enter Tryz.func155,Tryz.ntmps155
    go_wp2_with (first | (go_at_call 163;refine (CS.out _).mono ?_;rintro e w1 ⟨rfl,hb⟩;obtain ⟨c1,c2,hsz⟩:=boxed hb) | (go_at_call 164;refine (CD.out _).mono ?_;rintro e w2 ⟨rfl,nn,rfl⟩) | (go_at_call 165;refine (CB.out _).mono ?_;rintro e w3 ⟨rfl,hb3⟩))
    go_returns
    exact ⟨rfl,by_world hb hb3⟩
 ·have CB:=fun w=>below0_neg X w (by omega) gX
  rw [<- hxh,<- hxl] at *
  rw [<- hzh,<- hzl] at CS
  have CS:Hid _:=CS
  have CD:Hid _:=CD
  have CB:Hid _:=CB
  rcases hd with ⟨gc,ed⟩ | ⟨gc,ed⟩
  ·have hfl:fl X c = if r = 0 then -n else -(n + 1):=by unfold fl;rw [if_neg (by omega),show X = -Z by omega,<- ed];exact NEG.out
   rw [hfl]
   subst ed
   clear hxh hxl hzh hzl hZe hne hre eZ hfl h0 h1 NEG
   by_cases gr:r = 0
   ·rw [if_pos gr]
    have gr':(r != 0) = false:=by simp [gr]
    clear gr
    go_enter Tryz.func155,Tryz.ntmps155
    go_wp2_with (first | (go_at_call 163;refine (CS.out _).mono ?_;rintro e w1 ⟨rfl,hb⟩;obtain ⟨c1,c2,hsz⟩:=boxed hb) | (go_at_call 164;refine (CD.out _).mono ?_;rintro e w2 ⟨rfl,nn,rfl⟩) | (go_at_call 165;refine (CB.out _).mono ?_;rintro e w3 ⟨rfl,hb3⟩))
    go_returns
    exact ⟨rfl,by_world hb hb3⟩
   ·rw [if_neg gr]
    have gr':(r != 0) = true:=by simp [gr]
    clear gr
    go_enter Tryz.func155,Tryz.ntmps155
    go_wp2_with (first | (go_at_call 163;refine (CS.out _).mono ?_;rintro e w1 ⟨rfl,hb⟩;obtain ⟨c1,c2,hsz⟩:=boxed hb) | (go_at_call 164;refine (CD.out _).mono ?_;rintro e w2 ⟨rfl,nn,rfl⟩) | (go_at_call 165;refine (CB.out _).mono ?_;rintro e w3 ⟨rfl,hb3⟩))
    go_returns
    exact ⟨rfl,by_world hb hb3⟩
  ·have hfl:fl X c = n:=by unfold fl;rw [if_pos (by omega),<- hne,eZ,ed]
   rw [hfl]
   subst ed
   clear hxh hxl hzh hzl hZe hne hre eZ hfl h0 h1 NEG
   go_enter Tryz.func155,Tryz.ntmps155
   go_wp2_with (first | (go_at_call 163;refine (CS.out _).mono ?_;rintro e w1 ⟨rfl,hb⟩;obtain ⟨c1,c2,hsz⟩:=boxed hb) | (go_at_call 164;refine (CD.out _).mono ?_;rintro e w2 ⟨rfl,nn,rfl⟩) | (go_at_call 165;refine (CB.out _).mono ?_;rintro e w3 ⟨rfl,hb3⟩))
   go_returns
   exact ⟨rfl,by_world hb hb3⟩
theorem by_none (X c Z d:Int) (w:World) (h0:-170141183460469231731687303715884105728 < X) (h1:X < 170141183460469231731687303715884105728)
  (hZ:(0 <= X/\Z = X) \/ (X < 0/\Z = -X)) (hd:(0 < c/\d = c) \/ (c < 0/\d = -c)) (hc:d <= 4611686018427387903) (hn:4611686018427387903 < Z / d) :
  Calls Tryz.prog 155 #[.agg #[.int .u64 (X / 18446744073709551616 % 18446744073709551616),.int .u64 (X % 18446744073709551616)],.int .i64 c] w fun e w' =>
   e = .returned (.tuple #[.int .i64 0,.bool false])/\Below w.heap.size w w':=by
 obtain ⟨xh,hxh⟩:∃ u,u = X / 18446744073709551616 % 18446744073709551616:=⟨_,rfl⟩
 obtain ⟨xl,hxl⟩:∃ u,u = X % 18446744073709551616:=⟨_,rfl⟩
 obtain ⟨zh,hzh⟩:∃ u,u = Z / 18446744073709551616 % 18446744073709551616:=⟨_,rfl⟩
 obtain ⟨zl,hzl⟩:∃ u,u = Z % 18446744073709551616:=⟨_,rfl⟩
 have hd0:0 < d:=by omega
 have hZ0:0 <= Z:=by omega
 have hZe:zh * 18446744073709551616 + zl = Z:=by omega
 obtain ⟨n,hne⟩:∃ n,Z / d = n:=⟨_,rfl⟩
 obtain ⟨r,hre⟩:∃ r,Z % d = r:=⟨_,rfl⟩
 rw [hne] at hn
 have hz0:0 <= zh:=by omega
 have hl0:0 <= zl:=by omega
 have hl1:zl < 18446744073709551616:=by omega
 have hr0:0 <= r:=by rw [<- hre];exact Int.emod_nonneg _ (by omega)
 have CS:=fun w=>size_any X Z w h0 h1 hZ
 rw [<- hxh,<- hxl] at *
 rw [<- hzh,<- hzl] at CS
 by_cases hzd:zh < d
 ·have CD:=fun w=>div64_any zh zl d w hz0 hzd hl0 hl1 (by omega)
  rw [hZe,hne,hre] at CD
  have CS:Hid _:=CS
  have CD:Hid _:=CD
  clear hxh hxl hzh hzl hZe hne hre h0 h1 hZ
  rcases hd with ⟨gc,ed⟩ | ⟨gc,ed⟩ <;> subst ed
  all_goals
   go_enter Tryz.func155,Tryz.ntmps155
   go_wp2_with (first | (go_at_call 163;refine (CS.out _).mono ?_;rintro e w1 ⟨rfl,hb⟩;obtain ⟨c1,c2,hsz⟩:=boxed hb) | (go_at_call 164;refine (CD.out _).mono ?_;rintro e w2 ⟨rfl,nn,rfl⟩))
   go_returns
   exact ⟨rfl,by_world hb (Below.refl _ _)⟩
 ·have CS:Hid _:=CS
  clear hxh hxl hzh hzl hZe hne hre h0 h1 hZ
  rcases hd with ⟨gc,ed⟩ | ⟨gc,ed⟩ <;> subst ed
  all_goals
   go_enter Tryz.func155,Tryz.ntmps155
   go_wp2_with (first | (go_at_call 163;refine (CS.out _).mono ?_;rintro e w1 ⟨rfl,hb⟩;obtain ⟨c1,c2,hsz⟩:=boxed hb))
   go_returns
   exact ⟨rfl,by_world (n:=0) hb (Below.refl _ _)⟩
end
section
open Go.RowKit Fx
theorem length_any (X:Int) (w:World) (h0:0 <= X) (h1:X < 170141183460469231731687303715884105728) :
  Calls Tryz.prog 157 #[.agg #[.int .u64 (X / 18446744073709551616 % 18446744073709551616),.int .u64 (X % 18446744073709551616)]] w fun e w' =>
   (∃ n:Nat,e = .returned (.int .i64 n)/\n <= 127/\Hid (X < 2 ^ n))/\Below w.heap.size w w':=by
 obtain ⟨h,hh⟩:∃ u,u = X / 18446744073709551616 % 18446744073709551616:=⟨_,rfl⟩
 obtain ⟨l,hl⟩:∃ u,u = X % 18446744073709551616:=⟨_,rfl⟩
 rw [<- hh,<- hl]
 have bh:=bitLen_le64 h (by omega) (by omega)
 have bl:=bitLen_le64 l (by omega) (by omega)
 have e:X = h * 18446744073709551616 + l:=by omega
 have h63:h < 9223372036854775808:=by omega
 have bh':bitLen h.toNat <= 63:=by
  by_cases g:bitLen h.toNat <= 63
  ·exact g
  ·exfalso
   by_cases z:h.toNat = 0
   ·rw [z] at g;exact absurd g (by decide)
   ·have a:=(bitLen_spec h.toNat).2 z
    have:=Nat.pow_le_pow_right (n:=2) (by omega) (show 63 <= bitLen h.toNat - 1 by omega)
    omega
 by_cases g:0 < h
 ·have r:X < 2 ^ (64 + bitLen h.toNat):=by
   have a:=(bitLen_spec h.toNat).1
   have a':h + 1 <= 2 ^ bitLen h.toNat:=by
    have:((h.toNat:Nat):Int) < ((2 ^ bitLen h.toNat:Nat):Int):=by exact_mod_cast a
    rw [Int.natCast_pow] at this
    have:=Int.toNat_of_nonneg (show 0 <= h by omega)
    simp at *;omega
   rw [Int.pow_add]
   have:=Int.mul_le_mul_of_nonneg_left a' (show (0:Int) <= 2 ^ 64 by decide)
   omega
  have H0:0 <= h:=by omega
  have H1:h < 18446744073709551616:=by omega
  have R:Hid _:=r
  clear hh hl e h0 h1 r
  go_enter Tryz.func157,Tryz.ntmps157
  go_wp2_with (go_at_call 166;refine (len64_any _ _ H0 H1).mono ?_;rintro e w' ⟨rfl,rfl⟩)
  go_returns
  refine ⟨⟨64 + bitLen h.toNat,ret_int (by omega),by omega,R⟩,by go_grown⟩
 ·have r:X < 2 ^ (bitLen l.toNat):=by
   have a:=(bitLen_spec l.toNat).1
   have:((l.toNat:Nat):Int) < ((2 ^ bitLen l.toNat:Nat):Int):=by exact_mod_cast a
   rw [Int.natCast_pow] at this
   have:=Int.toNat_of_nonneg (show 0 <= l by omega)
   simp at *;omega
  have H0:0 <= l:=by omega
  have H1:l < 18446744073709551616:=by omega
  have R:Hid _:=r
  clear hh hl e h0 h1 r
  go_enter Tryz.func157,Tryz.ntmps157
  go_wp2_with (go_at_call 166;refine (len64_any _ _ H0 H1).mono ?_;rintro e w' ⟨rfl,rfl⟩)
  go_returns
  refine ⟨⟨bitLen l.toNat,rfl,by omega,R⟩,by go_grown⟩
theorem no_or {a b:Int} {c:Bool} (h:¬ a < b):(decide (a < b) || c) = c:=by simp [h]
theorem above_any (n X:Int) (w:World) (hn0:0 <= n) (hn:n < 18446744073709551616) (h0:0 <= X) (h1:X < 170141183460469231731687303715884105728) :
  Calls Tryz.prog 158 #[.int .u64 n,.agg #[.int .u64 (X / 18446744073709551616 % 18446744073709551616),.int .u64 (X % 18446744073709551616)]] w fun e w' =>
   e = .returned (.bool (decide (X < n * n)))/\Below w.heap.size w w':=by
 obtain ⟨h,hh⟩:∃ u,u = X / 18446744073709551616 % 18446744073709551616:=⟨_,rfl⟩
 obtain ⟨l,hl⟩:∃ u,u = X % 18446744073709551616:=⟨_,rfl⟩
 rw [<- hh,<- hl]
 obtain ⟨P,hP⟩:∃ P,P = n * n:=⟨_,rfl⟩
 obtain ⟨ph,hph⟩:∃ P,P = n * n / 18446744073709551616:=⟨_,rfl⟩
 obtain ⟨pl,hpl⟩:∃ P,P = n * n % 18446744073709551616:=⟨_,rfl⟩
 have CM:=fun w=>mul64_any n n w hn0 hn hn0 hn
 rw [<- hph,<- hpl] at CM
 rw [<- hP] at *
 have CM:Hid _:=CM
 by_cases g1:h < ph
 ·have r:decide (X < P) = true:=by simp;omega
  rw [r]
  clear hh hl hP hph hpl r
  go_enter Tryz.func158,Tryz.ntmps158
  go_wp2_with (go_at_call 146;refine (CM.out _).mono ?_;rintro e w' ⟨rfl,rfl⟩)
  go_returns
  exact ⟨rfl,by go_grown⟩
 ·by_cases g2:ph = h
  ·have r:decide (X < P) = decide (l < pl):=by rw [decide_eq_decide];omega
   rw [r]
   have g2':(ph == h) = true:=by simp [g2]
   clear hh hl hP hph hpl r g2
   go_enter Tryz.func158,Tryz.ntmps158
   go_wp2_with (go_at_call 146;refine (CM.out _).mono ?_;rintro e w' ⟨rfl,rfl⟩)
   go_returns
   exact ⟨ret_bool (by rw [no_or (by omega)]),by go_grown⟩
  ·have r:decide (X < P) = false:=by simp;omega
   rw [r]
   have g2':(ph == h) = false:=by simp [g2]
   clear hh hl hP hph hpl r g2
   go_enter Tryz.func158,Tryz.ntmps158
   go_wp2_with (go_at_call 146;refine (CM.out _).mono ?_;rintro e w' ⟨rfl,rfl⟩)
   go_returns
   exact ⟨ret_bool (by simp;omega),by go_grown⟩
def RInv (X n:Int) (k:Nat):Prop:=n.toNat % 2 ^ k = 0/\n * n <= X/\X < (n + 2 ^ k) * (n + 2 ^ k)/\0 <= n/\n + 2 ^ k <= 18446744073709551616
theorem rinv_start {X:Int} {n:Nat} (h0:0 <= X) (hn:n <= 127) (h:X < 2 ^ n):RInv X 0 ((n + 1) / 2):=by
 refine ⟨by simp,by simpa using h0,?_,by omega,?_⟩
 ·rw [Int.zero_add,<- Int.pow_add]
  have:(2:Int) ^ n <= 2 ^ ((n + 1) / 2 + (n + 1) / 2):=by
   exact_mod_cast Nat.pow_le_pow_right (n:=2) (by omega) (show n <= (n + 1) / 2 + (n + 1) / 2 by omega)
  omega
 ·rw [Int.zero_add]
  have:(2:Int) ^ ((n + 1) / 2) <= 2 ^ 64:=by
   exact_mod_cast Nat.pow_le_pow_right (n:=2) (by omega) (show (n + 1) / 2 <= 64 by omega)
  simpa using this
theorem rinv_next {X n:Int} {j:Nat} (h:RInv X n (j + 1)):n + 2 ^ j < 18446744073709551616/\(n + 2 ^ j).toNat % 2 ^ j = 0/\n.toNat % 2 ^ j = 0:=by
 obtain ⟨a,b,c,d,e⟩:=h
 have hp:(0:Int) < 2 ^ j:=Int.pow_pos (by omega)
 rw [Int.pow_succ] at e
 have hm:n.toNat % 2 ^ j = 0:=by
  rw [Nat.pow_succ] at a
  have:=Nat.mod_mul_right_mod n.toNat (2 ^ j) 2
  rw [a] at this
  simpa using this.symm
 refine ⟨by omega,?_,hm⟩
 have:(n + 2 ^ j).toNat = n.toNat + 2 ^ j:=by
  obtain ⟨m,rfl⟩:=Int.eq_ofNat_of_zero_le d
  have:((m:Int) + 2 ^ j) = ((m + 2 ^ j:Nat):Int):=by simp
  rw [this,Int.toNat_natCast,Int.toNat_natCast]
 rw [this,Nat.add_mod_right,hm]
theorem rinv_up {X n:Int} {j:Nat} (h:RInv X n (j + 1)) (hc:(n + 2 ^ j) * (n + 2 ^ j) <= X):RInv X (n + 2 ^ j) j:=by
 obtain ⟨_,q,_⟩:=rinv_next h
 obtain ⟨a,b,c,d,e⟩:=h
 have hp:(0:Int) < 2 ^ j:=Int.pow_pos (by omega)
 have s:n + 2 ^ j + 2 ^ j = n + 2 ^ (j + 1):=by rw [Int.pow_succ];omega
 exact ⟨q,hc,by rw [s];exact c,by omega,by rw [s];exact e⟩
theorem rinv_stay {X n:Int} {j:Nat} (h:RInv X n (j + 1)) (hc:X < (n + 2 ^ j) * (n + 2 ^ j)):RInv X n j:=by
 obtain ⟨_,_,q⟩:=rinv_next h
 obtain ⟨a,b,c,d,e⟩:=h
 have hp:(0:Int) < 2 ^ j:=Int.pow_pos (by omega)
 rw [Int.pow_succ] at e
 exact ⟨q,b,hc,d,by omega⟩
theorem root_or {n:Int} {j:Nat} (h0:0 <= n) (h:n + 2 ^ j < 18446744073709551616) (hm:n.toNat % 2 ^ (j + 1) = 0):bits .or .u64 n (2 ^ j) = n + 2 ^ j:=by
 obtain ⟨m,rfl⟩:=Int.eq_ofNat_of_zero_le h0
 have e:((2:Int) ^ j) = ((2 ^ j:Nat):Int):=by simp
 rw [e] at h ⊢
 rw [u64_or_nat _ _ (by omega) (by omega),nat_join (j + 1) _ _ (by simpa using hm) (Nat.pow_lt_pow_right (by omega) (by omega))]
 simp
end
section
open Go.RowKit Fx
theorem root_world {w wr:World} {o:Obj} (hb:Below (w.alloc o).heap.size (w.alloc o) wr):Below w.heap.size w wr:=
 ((Below.refl _ _).alloc (Nat.le_refl _) _).trans (hb.mono (by simp))
theorem root_any (X:Int) (w:World) (h0:0 <= X) (h1:X < 170141183460469231731687303715884105728) :
  Calls Tryz.prog 148 #[.agg #[.int .u64 (X / 18446744073709551616 % 18446744073709551616),.int .u64 (X % 18446744073709551616)]] w fun e w' =>
   e = .returned (.tuple #[.int .i64 (wrap64 (isq X.toNat)),.bool (decide ((isq X.toNat:Int) <= 4611686018427387903))])/\Below w.heap.size w w':=by
 have CL:=fun w=>length_any X w h0 h1
 have CA:=fun n w a b=>above_any n X w a b h0 h1
 obtain ⟨h,hh⟩:∃ u,u = X / 18446744073709551616 % 18446744073709551616:=⟨_,rfl⟩
 obtain ⟨l,hl⟩:∃ u,u = X % 18446744073709551616:=⟨_,rfl⟩
 rw [<- hh,<- hl] at CL CA ⊢
 have KL:Hid _:=CL
 have KA:Hid _:=CA
 have H0:Hid _:=h0
 clear hh hl CL CA h0 h1
 go_enter Tryz.func148,Tryz.ntmps148
 go_wp2_with (go_at_call 157;refine (KL.out _).mono ?_;rintro e w1 ⟨⟨N,rfl,hN,HX⟩,hb⟩;obtain ⟨c1,c2,hsz⟩:=boxed hb)
 go_loopw [4,5] (fun a b wr=>∃ (n p:Int) (k:Nat),a = .int .u64 n/\b = .int .i64 p/\p + 1 = k/\p <= 63/\Hid (RInv X n k)/\Below (w.alloc (.cells #[.int .u64 h,.int .u64 l] 141)).heap.size (w.alloc (.cells #[.int .u64 h,.int .u64 l] 141)) wr) (fun _ b _=>(intOf b + 1).toNat)
 case atStart=>exact ⟨_,_,(N + 1) / 2,rfl,rfl,by omega,by omega,rinv_start H0.out hN HX.out,hb⟩
 case round =>
  obtain ⟨n,p,k,rfl,rfl,hk,hp,HI,hbr⟩:=hrel
  obtain ⟨d1,d2,hsr⟩:=boxed hbr
  rcases k with _ | j
  ·have hp1:p = -1:=by omega
   subst hp1
   have hI:=HI.out
   obtain ⟨_,i1,i2,i3,i4⟩:=hI
   simp at i2 i4
   obtain rfl:n = (isq X.toNat:Int):=isq_of i3 i1 i2
   clear i1 i2 hk
   go_wp2
   go_returns
   exact ⟨rfl,root_world hbr⟩
  ·have hp1:p = (j:Int):=by omega
   subst hp1
   have hI:=HI.out
   have hN0:0 <= n:=hI.2.2.2.1
   have nx:=rinv_next hI
   have hor:=root_or hN0 nx.1 hI.1
   have hpw:(0:Int) < 2 ^ j:=Int.pow_pos (by omega)
   have hw:IntKind.u64.wrap (2 ^ j) = 2 ^ j:=by rw [IntKind.wrap_u64];omega
   have hw':IntKind.u64.wrap (1 * 2 ^ j) = 2 ^ j:=by rw [Int.one_mul];exact hw
   have hK:=fun w=>KA.out (n + 2 ^ j) w (by omega) nx.1
   obtain ⟨m,hm⟩:∃ m,m = n + 2 ^ j:=⟨_,rfl⟩
   rw [<- hm] at hK hor
   by_cases hc:X < m * m
   ·have hK:Hid (∀ w,Calls Tryz.prog 158 #[.int .u64 m,.agg #[.int .u64 h,.int .u64 l]] w fun e w'=>e = .returned (.bool true)/\Below w.heap.size w w'):=fun w=>by simpa [hc] using hK w
    have I2:Hid (RInv X n j):=rinv_stay hI (by rw [<- hm];exact hc)
    clear hI nx hc hm hpw
    go_wp2_with (go_at_call 158;refine (hK.out _).mono ?_;rintro e w2 ⟨rfl,hb2⟩)
    go_roundw
    case rel=>exact ⟨_,_,j,rfl,rfl,by omega,by omega,I2,hbr.trans (hb2.mono (by have:=hbr.size;omega))⟩
    case measure=>simp [intOf]
   ·have hK:Hid (∀ w,Calls Tryz.prog 158 #[.int .u64 m,.agg #[.int .u64 h,.int .u64 l]] w fun e w'=>e = .returned (.bool false)/\Below w.heap.size w w'):=fun w=>by simpa [hc] using hK w
    have I2:Hid (RInv X m j):=by rw [hm];exact rinv_up hI (by rw [<- hm];omega)
    clear hI nx hc hm hpw
    go_wp2_with (go_at_call 158;refine (hK.out _).mono ?_;rintro e w2 ⟨rfl,hb2⟩)
    go_roundw
    case rel=>exact ⟨_,_,j,rfl,rfl,by omega,by omega,I2,hbr.trans (hb2.mono (by have:=hbr.size;omega))⟩
    case measure=>simp [intOf]
end
section
open Go.RowKit Fx
theorem great_step (zs:List Int) (k:Nat) (h:k < zs.length) (hn:(zs.take k).any great = false):(zs.take (k + 1)).any great = great (zs.getD k 0):=by
 rw [List.take_succ_eq_append_getElem h,List.any_append,hn]
 simp [List.getD_eq_getElem?_getD,List.getElem?_eq_getElem h]
theorem great_any (zs:List Int) (b off cap:Nat) (w:World) (hlen:zs.length <= 4611686018427387904) (hc:∀ k,k < zs.length->w.cell? ⟨b,off + k,none⟩ = some (.int .i64 (zs.getD k 0))) :
  Calls Tryz.prog 117 #[.slice (some ⟨b,off,none⟩) zs.length cap] w fun e w'=>e = .returned (.bool (zs.any great))/\w' = w:=by
 have HC:Hid _:=hc
 clear hc
 go_enter Tryz.func117,Tryz.ntmps117
 go_wp2
 go_loop [7] (fun i=>∃ k:Nat,k <= zs.length/\i = .int .i64 k/\Hid ((zs.take k).any great = false)) (fun i=>zs.length - (intOf i).toNat)
 case atStart=>exact ⟨0,Nat.zero_le _,rfl,by simp [Hid]⟩
 case round =>
  obtain ⟨k,hk,rfl,HG⟩:=hrel
  by_cases hlt:k < zs.length
  ·have hcell:=HC.out k hlt
   have hs:=great_step zs k hlt HG.out
   obtain ⟨z,hz⟩:∃ z,zs.getD k 0 = z:=⟨_,rfl⟩
   rw [hz] at hcell hs
   have HS:Hid _:=hs
   clear hs hz
   by_cases g1:z < -4611686018427387903
   ·have hany:zs.any great = true:=by
     have:(zs.take (k + 1)).any great = true:=by rw [HS.out];simp [great,g1]
     rw [List.any_eq_true] at this ⊢
     obtain ⟨x,hx,hg⟩:=this
     exact ⟨x,List.mem_of_mem_take hx,hg⟩
    go_wp2
    go_ret
    exact ⟨rfl,rfl⟩
   ·by_cases g2:4611686018427387903 < z
    ·have hany:zs.any great = true:=by
      have:(zs.take (k + 1)).any great = true:=by rw [HS.out];simp [great,g2]
      rw [List.any_eq_true] at this ⊢
      obtain ⟨x,hx,hg⟩:=this
      exact ⟨x,List.mem_of_mem_take hx,hg⟩
     go_wp2
     go_ret
     exact ⟨rfl,rfl⟩
    ·have hno:Hid ((zs.take (k + 1)).any great = false):=by
      show _ = false
      rw [HS.out];simp [great];omega
     go_wp2
     go_round
     case rel=>exact ⟨k + 1,by omega,by go_num,hno⟩
     case measure=>simp [intOf];omega
  ·have hany:zs.any great = false:=by
    have:=HG.out
    rwa [List.take_of_length_le (by omega)] at this
   go_wp2
   go_ret
   exact ⟨rfl,rfl⟩
theorem great_nil (a:Option Addr) (cap:Nat) (w:World) :
  Calls Tryz.prog 117 #[.slice a 0 cap] w fun e w'=>e = .returned (.bool false)/\w' = w:=by
 go_enter Tryz.func117,Tryz.ntmps117
 go_wp2
 go_rounds 1
 go_ret
 exact ⟨rfl,rfl⟩
theorem none_any (b off:Nat) (f:Bool) (w:World) (hc:w.cell? ⟨b,off,none⟩ = some (.bool f)) (hf:w.frozen? ⟨b,off,none⟩ = false) :
  Calls Tryz.prog 118 #[.pointer (some ⟨b,off,none⟩)] w fun e w'=>e = .returned (.int .i64 0)/\w' = w.setCell ⟨b,off,none⟩ (.bool true):=by
 go_enter Tryz.func118,Tryz.ntmps118
 go_wp2
 go_ret
 exact ⟨rfl,rfl⟩
theorem great1 (a:Int) (w:World):Calls Tryz.prog 117 #[.slice (some ⟨w.heap.size,0,none⟩) 1 1] (w.alloc (.cells #[.int .i64 a] 3)) fun e w'=>e = .returned (.bool (great a))/\w' = w.alloc (.cells #[.int .i64 a] 3):=by
 have h:=great_any [a] w.heap.size 0 1 (w.alloc (.cells #[.int .i64 a] 3)) (by simp) (fun k hk=>by
  match k,hk with
  | 0,_=>simp)
 simpa using h
theorem great2 (a b:Int) (w:World):Calls Tryz.prog 117 #[.slice (some ⟨w.heap.size,0,none⟩) 2 2] (w.alloc (.cells #[.int .i64 a,.int .i64 b] 3)) fun e w'=>e = .returned (.bool (great a || great b))/\w' = w.alloc (.cells #[.int .i64 a,.int .i64 b] 3):=by
 have h:=great_any [a,b] w.heap.size 0 2 (w.alloc (.cells #[.int .i64 a,.int .i64 b] 3)) (by simp) (fun k hk=>by
  match k,hk with
  | 0,_=>simp
  | 1,_=>simp)
 simpa using h
theorem great3 (a b c:Int) (w:World):Calls Tryz.prog 117 #[.slice (some ⟨w.heap.size,0,none⟩) 3 3] (w.alloc (.cells #[.int .i64 a,.int .i64 b,.int .i64 c] 3)) fun e w'=>e = .returned (.bool (great a || (great b || great c)))/\w' = w.alloc (.cells #[.int .i64 a,.int .i64 b,.int .i64 c] 3):=by
 have h:=great_any [a,b,c] w.heap.size 0 3 (w.alloc (.cells #[.int .i64 a,.int .i64 b,.int .i64 c] 3)) (by simp) (fun k hk=>by
  match k,hk with
  | 0,_=>simp
  | 1,_=>simp
  | 2,_=>simp)
 simpa using h
def mark (p:Addr) (o:Option Int) (w:World):World:=if o.isNone then w.setCell p (.bool true) else w
theorem set_after {w w1:World} {p:Addr} {v:Value} (hb:Below w.heap.size w w1):Below w.heap.size (w.setCell p v) (w1.setCell p v):=by
 refine ⟨hb.os,hb.tape,hb.output,by simpa [World.setCell] using hb.size,fun k hk=>?_⟩
 simp only [World.setCell,Array.getElem?_modify]
 rw [hb.block k hk]
theorem cell_after {w w1:World} {p:Addr} {v:Value} (hb:Below w.heap.size w w1) (hc:w.cell? p = some v):w1.cell? p = some v:=(hb.cell (World.block_lt_of_cell? _ _ hc)).trans hc
theorem frozen_after {w w1:World} {p:Addr} {v:Value} (hb:Below w.heap.size w w1) (hc:w.cell? p = some v) (hf:w.frozen? p = false):w1.frozen? p = false:=(hb.frozen (World.block_lt_of_cell? _ _ hc)).trans hf
theorem new_after (w:World) (o:Obj):Below w.heap.size w (w.alloc o):=(Below.refl _ _).alloc (Nat.le_refl _) _
theorem tell_yes (b off:Nat) (n:Int) (w:World) (hg:great n = false) :
  Calls Tryz.prog 119 #[.pointer (some ⟨b,off,none⟩),.int .i64 n,.bool true] w fun e w'=>e = .returned (.int .i64 n)/\Below w.heap.size w w':=by
 have C1:Hid _:=great1 n w
 rw [hg] at C1
 clear hg
 go_enter Tryz.func119,Tryz.ntmps119
 go_wp2_with (go_at_call 117;refine (Calls.mono C1.out ?_);rintro e w' ⟨rfl,rfl⟩)
 go_ret
 exact ⟨rfl,by go_grown⟩
theorem tell_great (b off:Nat) (f:Bool) (n:Int) (w:World) (hc:w.cell? ⟨b,off,none⟩ = some (.bool f)) (hf:w.frozen? ⟨b,off,none⟩ = false) (hg:great n = true) :
  Calls Tryz.prog 119 #[.pointer (some ⟨b,off,none⟩),.int .i64 n,.bool true] w fun e w'=>e = .returned (.int .i64 0)/\Below w.heap.size (w.setCell ⟨b,off,none⟩ (.bool true)) w':=by
 have C1:=great1 n w
 have hb:=new_after w (.cells #[.int .i64 n] 3)
 have C2:Hid _:=none_any b off f (w.alloc (.cells #[.int .i64 n] 3)) (cell_after hb hc) (frozen_after hb hc hf)
 have HB:Hid _:=set_after (p:=⟨b,off,none⟩) (v:=.bool true) hb
 rw [hg] at C1
 have K1:Hid _:=C1
 clear hg C1 hb hc hf
 go_enter Tryz.func119,Tryz.ntmps119
 go_wp2_with (first | (go_at_call 117;refine (Calls.mono K1.out ?_);rintro e w' ⟨rfl,rfl⟩) | (go_at_call 118;refine (Calls.mono C2.out ?_);rintro e w' ⟨rfl,rfl⟩))
 go_ret
 exact ⟨rfl,HB.out⟩
theorem tell_no (b off:Nat) (f:Bool) (n:Int) (w:World) (hc:w.cell? ⟨b,off,none⟩ = some (.bool f)) (hf:w.frozen? ⟨b,off,none⟩ = false) :
  Calls Tryz.prog 119 #[.pointer (some ⟨b,off,none⟩),.int .i64 n,.bool false] w fun e w'=>e = .returned (.int .i64 0)/\Below w.heap.size (w.setCell ⟨b,off,none⟩ (.bool true)) w':=by
 have C2:Hid _:=none_any b off f w hc hf
 clear hc hf
 go_enter Tryz.func119,Tryz.ntmps119
 go_wp2_with (go_at_call 118;refine (Calls.mono C2.out ?_);rintro e w' ⟨rfl,rfl⟩)
 go_ret
 exact ⟨rfl,Below.refl _ _⟩
theorem tell_any (b off:Nat) (f:Bool) (n:Int) (w:World) (hc:w.cell? ⟨b,off,none⟩ = some (.bool f)) (hf:w.frozen? ⟨b,off,none⟩ = false) :
  Calls Tryz.prog 119 #[.pointer (some ⟨b,off,none⟩),.int .i64 n,.bool true] w fun e w'=>e = .returned (.int .i64 ((Fx.told n).getD 0))/\Below w.heap.size (mark ⟨b,off,none⟩ (Fx.told n) w) w':=by
 cases hg:great n
 ·simpa [Fx.told,hg,mark] using tell_yes b off n w hg
 ·simpa [Fx.told,hg,mark] using tell_great b off f n w hc hf hg
theorem tell_any_none (b off:Nat) (f:Bool) (n:Int) (w:World) (hc:w.cell? ⟨b,off,none⟩ = some (.bool f)) (hf:w.frozen? ⟨b,off,none⟩ = false) :
  Calls Tryz.prog 119 #[.pointer (some ⟨b,off,none⟩),.int .i64 n,.bool false] w fun e w'=>e = .returned (.int .i64 ((none:Option Int).getD 0))/\Below w.heap.size (mark ⟨b,off,none⟩ none w) w':=by
 simpa [mark] using tell_no b off f n w hc hf
theorem mark_after {w w1 w2:World} {p:Addr} {o:Option Int} (h1:Below w.heap.size w w1) (h2:Below w1.heap.size (mark p o w1) w2):Below w.heap.size (mark p o w) w2:=by
 have hs:=h1.size
 cases o with
 | none=>exact (set_after h1).trans (h2.mono hs)
 | some n=>exact h1.trans (h2.mono hs)
theorem add_any (b off:Nat) (f:Bool) (x y:Int) (w:World) (hc:w.cell? ⟨b,off,none⟩ = some (.bool f)) (hf:w.frozen? ⟨b,off,none⟩ = false) :
  Calls Tryz.prog 105 #[.pointer (some ⟨b,off,none⟩),.int .i64 x,.int .i64 y] w fun e w'=>e = .returned (.int .i64 ((add x y).getD 0))/\Below w.heap.size (mark ⟨b,off,none⟩ (add x y) w) w':=by
 have C1:=great2 x y w
 have hb:=new_after w (.cells #[.int .i64 x,.int .i64 y] 3)
 have hc':=cell_after hb hc
 have hf':=frozen_after hb hc hf
 cases hg:(great x || great y)
 ·have hadd:add x y = Fx.told (x + y):=by simp [add,hg]
  rw [hadd]
  rw [hg] at C1
  have hx:-4611686018427387903 <= x/\x <= 4611686018427387903:=(not_great x).1 (by simp at hg;exact hg.1)
  have hy:-4611686018427387903 <= y/\y <= 4611686018427387903:=(not_great y).1 (by simp at hg;exact hg.2)
  have C2:Hid _:=tell_any b off f (x + y) _ hc' hf'
  have K1:Hid _:=C1
  have HB:Hid _:=hb
  clear C1 hb hc hf hc' hf' hg hadd
  go_enter Tryz.func105,Tryz.ntmps105
  go_wp2_with (first | (go_at_call 117;refine (Calls.mono K1.out ?_);rintro e w' ⟨rfl,rfl⟩) | (go_at_call 119;refine (Calls.mono C2.out ?_);rintro e w' ⟨rfl,hb2⟩))
  go_ret
  exact ⟨rfl,mark_after HB.out hb2⟩
 ·have hadd:add x y = none:=by simp only [add,hg,if_true]
  rw [hadd]
  rw [hg] at C1
  have C2:Hid _:=none_any b off f _ hc' hf'
  have K1:Hid _:=C1
  have HB:Hid _:=set_after (p:=⟨b,off,none⟩) (v:=.bool true) hb
  clear C1 hb hc hf hc' hf' hg hadd
  go_enter Tryz.func105,Tryz.ntmps105
  go_wp2_with (first | (go_at_call 117;refine (Calls.mono K1.out ?_);rintro e w' ⟨rfl,rfl⟩) | (go_at_call 118;refine (Calls.mono C2.out ?_);rintro e w' ⟨rfl,rfl⟩))
  go_ret
  exact ⟨rfl,HB.out⟩
end
section
open Go.RowKit Fx
theorem below_step {w w1 w2:World} (h1:Below w.heap.size w w1) (h2:Below w1.heap.size w1 w2):Below w.heap.size w w2:=h1.trans (h2.mono h1.size)
theorem small_prod {x y:Int} (hx:-4611686018427387903 <= x/\x <= 4611686018427387903) (hy:-4611686018427387903 <= y/\y <= 4611686018427387903):-21267647932558653966460912964485513216 < x * y/\x * y < 21267647932558653966460912964485513216:=by
 have a:(x * y).natAbs <= 4611686018427387903 * 4611686018427387903:=by rw [Int.natAbs_mul];exact Nat.mul_le_mul (by omega) (by omega)
 omega
theorem mul_any (b off:Nat) (f:Bool) (x y:Int) (w:World) (hc:w.cell? ⟨b,off,none⟩ = some (.bool f)) (hf:w.frozen? ⟨b,off,none⟩ = false) :
  Calls Tryz.prog 69 #[.pointer (some ⟨b,off,none⟩),.int .i64 x,.int .i64 y] w fun e w'=>e = .returned (.int .i64 ((mul x y).getD 0))/\Below w.heap.size (mark ⟨b,off,none⟩ (mul x y) w) w':=by
 have C1:=great2 x y w
 have hb:=new_after w (.cells #[.int .i64 x,.int .i64 y] 3)
 have hc':=cell_after hb hc
 have hf':=frozen_after hb hc hf
 cases hg:(great x || great y)
 ·have hx:-4611686018427387903 <= x/\x <= 4611686018427387903:=(not_great x).1 (by simp at hg;exact hg.1)
  have hy:-4611686018427387903 <= y/\y <= 4611686018427387903:=(not_great y).1 (by simp at hg;exact hg.2)
  rw [hg] at C1
  have K1:Hid _:=C1
  have HB:Hid _:=hb
  have HC:Hid _:=hc
  have HF:Hid _:=hf
  have hp:=small_prod hx hy
  have C3:Hid _:=fun w=>product_any x y w (by omega) (by omega) (by omega) (by omega)
  have C4:=fun w=>byOne_any (x * y) w (by omega) (by omega)
  by_cases hfit:-9223372036854775808 <= x * y / 4294967296/\x * y / 4294967296 < 9223372036854775808
  ·have hmul:mul x y = Fx.told (x * y / 4294967296):=by simp only [mul,hg];rfl
   rw [hmul]
   rw [IntWalk.wrap64_in _ (by omega),decide_eq_true hfit] at C4
   have K4:Hid _:=C4
   clear C1 hb hc hf hc' hf' hg hmul C4 hfit hp
   go_enter Tryz.func69,Tryz.ntmps69
   go_wp2_with (first
    | (go_at_call 117;refine (Calls.mono K1.out ?_);rintro e w' ⟨rfl,rfl⟩)
    | (go_at_call 120;refine (Calls.mono (C3.out _) ?_);rintro e w1 ⟨rfl,hb1⟩;have B1:Hid _:=below_step HB.out hb1)
    | (go_at_call 121;refine (Calls.mono (K4.out _) ?_);rintro e w2 ⟨rfl,hb2⟩;have B2:Hid _:=below_step B1.out hb2)
    | (go_at_call 119;refine (Calls.mono (tell_any b off f _ _ (cell_after B2.out HC.out) (frozen_after B2.out HC.out HF.out)) ?_);rintro e w3 ⟨rfl,hb3⟩))
   go_ret
   exact ⟨rfl,mark_after B2.out hb3⟩
  ·have hmul:mul x y = none:=by
    have hgr:great (x * y / 4294967296) = true:=by rw [great_iff];omega
    simp only [mul,hg,Fx.told,hgr];rfl
   rw [hmul]
   rw [decide_eq_false hfit] at C4
   have K4:Hid _:=C4
   clear C1 hb hc hf hc' hf' hg hmul C4 hfit hp
   go_enter Tryz.func69,Tryz.ntmps69
   go_wp2_with (first
    | (go_at_call 117;refine (Calls.mono K1.out ?_);rintro e w' ⟨rfl,rfl⟩)
    | (go_at_call 120;refine (Calls.mono (C3.out _) ?_);rintro e w1 ⟨rfl,hb1⟩;have B1:Hid _:=below_step HB.out hb1)
    | (go_at_call 121;refine (Calls.mono (K4.out _) ?_);rintro e w2 ⟨rfl,hb2⟩;have B2:Hid _:=below_step B1.out hb2)
    | (go_at_call 119;refine (Calls.mono (tell_any_none b off f _ _ (cell_after B2.out HC.out) (frozen_after B2.out HC.out HF.out)) ?_);rintro e w3 ⟨rfl,hb3⟩))
   go_ret
   exact ⟨rfl,mark_after B2.out hb3⟩
 ·have hmul:mul x y = none:=by simp only [mul,hg,if_true]
  rw [hmul]
  rw [hg] at C1
  have C2:Hid _:=none_any b off f _ hc' hf'
  have K1:Hid _:=C1
  have HB:Hid _:=set_after (p:=⟨b,off,none⟩) (v:=.bool true) hb
  clear C1 hb hc hf hc' hf' hg hmul
  go_enter Tryz.func69,Tryz.ntmps69
  go_wp2_with (first | (go_at_call 117;refine (Calls.mono K1.out ?_);rintro e w' ⟨rfl,rfl⟩) | (go_at_call 118;refine (Calls.mono C2.out ?_);rintro e w' ⟨rfl,rfl⟩))
  go_ret
  exact ⟨rfl,HB.out⟩
theorem ratio_any (b off:Nat) (f:Bool) (x y z:Int) (w:World) (hc:w.cell? ⟨b,off,none⟩ = some (.bool f)) (hf:w.frozen? ⟨b,off,none⟩ = false) :
  Calls Tryz.prog 143 #[.pointer (some ⟨b,off,none⟩),.int .i64 x,.int .i64 y,.int .i64 z] w fun e w'=>e = .returned (.int .i64 ((ratio x y z).getD 0))/\Below w.heap.size (mark ⟨b,off,none⟩ (ratio x y z) w) w':=by
 by_cases hz:z = 0
 ·have hr:ratio x y z = none:=by simp only [ratio,hz,if_true]
  rw [hr]
  have C2:Hid _:=none_any b off f _ hc hf
  have hz':(z == 0) = true:=by simp [hz]
  clear hc hf hz hr
  go_enter Tryz.func143,Tryz.ntmps143
  go_wp2_with (first | (go_at_call 118;refine (Calls.mono C2.out ?_);rintro e w' ⟨rfl,rfl⟩))
  go_ret
  exact ⟨rfl,Below.refl _ _⟩
 have hz':(z == 0) = false:=by simp [hz]
 have C1:=great3 x y z w
 have hb:=new_after w (.cells #[.int .i64 x,.int .i64 y,.int .i64 z] 3)
 have hc':=cell_after hb hc
 have hf':=frozen_after hb hc hf
 cases hg:(great x || (great y || great z))
 ·have hg3:great x = false/\great y = false/\great z = false:=by simpa using hg
  have hx:-4611686018427387903 <= x/\x <= 4611686018427387903:=(not_great x).1 hg3.1
  have hy:-4611686018427387903 <= y/\y <= 4611686018427387903:=(not_great y).1 hg3.2.1
  have hzz:-4611686018427387903 <= z/\z <= 4611686018427387903:=(not_great z).1 hg3.2.2
  rw [hg] at C1
  have K1:Hid _:=C1
  have HB:Hid _:=hb
  have HC:Hid _:=hc
  have HF:Hid _:=hf
  have hp:=small_prod hx hy
  have C3:Hid _:=fun w=>product_any x y w (by omega) (by omega) (by omega) (by omega)
  obtain ⟨Z,hZ⟩:∃ Z,(0 <= x * y/\Z = x * y) \/ (x * y < 0/\Z = -(x * y)):=by
   by_cases h:0 <= x * y
   ·exact ⟨_,Or.inl ⟨h,rfl⟩⟩
   ·exact ⟨_,Or.inr ⟨by omega,rfl⟩⟩
  obtain ⟨d,hd⟩:∃ d,(0 < z/\d = z) \/ (z < 0/\d = -z):=by
   by_cases h:0 < z
   ·exact ⟨_,Or.inl ⟨h,rfl⟩⟩
   ·exact ⟨_,Or.inr ⟨by omega,rfl⟩⟩
  by_cases hfit:Z / d <= 4611686018427387903
  ·have hr:ratio x y z = Fx.told (fl (x * y) z):=by simp only [ratio,hg,hz];rfl
   rw [hr]
   have K4:Hid _:=fun w=>by_any (x * y) z Z d w (by omega) (by omega) hZ hd (by omega) hfit
   clear C1 hb hc hf hc' hf' hg hr hfit hp hZ hd hg3 hz
   go_enter Tryz.func143,Tryz.ntmps143
   go_wp2_with (first
    | (go_at_call 117;refine (Calls.mono K1.out ?_);rintro e w' ⟨rfl,rfl⟩)
    | (go_at_call 120;refine (Calls.mono (C3.out _) ?_);rintro e w1 ⟨rfl,hb1⟩;have B1:Hid _:=below_step HB.out hb1)
    | (go_at_call 155;refine (Calls.mono (K4.out _) ?_);rintro e w2 ⟨rfl,hb2⟩;have B2:Hid _:=below_step B1.out hb2)
    | (go_at_call 119;refine (Calls.mono (tell_any b off f _ _ (cell_after B2.out HC.out) (frozen_after B2.out HC.out HF.out)) ?_);rintro e w3 ⟨rfl,hb3⟩))
   go_ret
   exact ⟨rfl,mark_after B2.out hb3⟩
  ·have hr:ratio x y z = none:=by
    have hgr:great (fl (x * y) z) = true:=by
     rw [great_iff]
     have hd0:0 < d:=by omega
     have hn:=neg_div (T:=Z) hd0
     unfold fl
     rcases hZ with ⟨a,rfl⟩ | ⟨a,e⟩ <;> rcases hd with ⟨g,rfl⟩ | ⟨g,rfl⟩
     ·rw [if_neg (by omega)];omega
     ·rw [if_pos (by omega),hn];split <;> omega
     ·rw [if_neg (by omega),show x * y = -Z by omega,hn];split <;> omega
     ·rw [if_pos (by omega),<- e];omega
    simp only [ratio,hz,hg,Fx.told,hgr];rfl
   rw [hr]
   have K4:Hid _:=fun w=>by_none (x * y) z Z d w (by omega) (by omega) hZ hd (by omega) (by omega)
   clear C1 hb hc hf hc' hf' hg hr hfit hp hZ hd hg3 hz
   go_enter Tryz.func143,Tryz.ntmps143
   go_wp2_with (first
    | (go_at_call 117;refine (Calls.mono K1.out ?_);rintro e w' ⟨rfl,rfl⟩)
    | (go_at_call 120;refine (Calls.mono (C3.out _) ?_);rintro e w1 ⟨rfl,hb1⟩;have B1:Hid _:=below_step HB.out hb1)
    | (go_at_call 155;refine (Calls.mono (K4.out _) ?_);rintro e w2 ⟨rfl,hb2⟩;have B2:Hid _:=below_step B1.out hb2)
    | (go_at_call 119;refine (Calls.mono (tell_any_none b off f _ _ (cell_after B2.out HC.out) (frozen_after B2.out HC.out HF.out)) ?_);rintro e w3 ⟨rfl,hb3⟩))
   go_ret
   exact ⟨rfl,mark_after B2.out hb3⟩
 ·have hr:ratio x y z = none:=by simp only [ratio,hz,hg,if_true,if_false]
  rw [hr]
  rw [hg] at C1
  have C2:Hid _:=none_any b off f _ hc' hf'
  have K1:Hid _:=C1
  have HB:Hid _:=set_after (p:=⟨b,off,none⟩) (v:=.bool true) hb
  clear C1 hb hc hf hc' hf' hg hr hz
  go_enter Tryz.func143,Tryz.ntmps143
  go_wp2_with (first | (go_at_call 117;refine (Calls.mono K1.out ?_);rintro e w' ⟨rfl,rfl⟩) | (go_at_call 118;refine (Calls.mono C2.out ?_);rintro e w' ⟨rfl,rfl⟩))
  go_ret
  exact ⟨rfl,HB.out⟩
theorem div_any (b off:Nat) (f:Bool) (x y:Int) (w:World) (hc:w.cell? ⟨b,off,none⟩ = some (.bool f)) (hf:w.frozen? ⟨b,off,none⟩ = false) :
  Calls Tryz.prog 102 #[.pointer (some ⟨b,off,none⟩),.int .i64 x,.int .i64 y] w fun e w'=>e = .returned (.int .i64 ((ratio x 4294967296 y).getD 0))/\Below w.heap.size (mark ⟨b,off,none⟩ (ratio x 4294967296 y) w) w':=by
 have C:Hid _:=ratio_any b off f x 4294967296 y w hc hf
 clear hc hf
 go_enter Tryz.func102,Tryz.ntmps102
 go_wp2_with (go_at_call 143;refine (Calls.mono C.out ?_);rintro e w' ⟨rfl,hb⟩)
 go_ret
 exact ⟨rfl,hb⟩
theorem sub_any (b off:Nat) (f:Bool) (x y:Int) (w:World) (hc:w.cell? ⟨b,off,none⟩ = some (.bool f)) (hf:w.frozen? ⟨b,off,none⟩ = false) :
  Calls Tryz.prog 106 #[.pointer (some ⟨b,off,none⟩),.int .i64 x,.int .i64 y] w fun e w'=>e = .returned (.int .i64 ((sub x y).getD 0))/\Below w.heap.size (mark ⟨b,off,none⟩ (sub x y) w) w':=by
 have C1:=great2 x y w
 have hb:=new_after w (.cells #[.int .i64 x,.int .i64 y] 3)
 have hc':=cell_after hb hc
 have hf':=frozen_after hb hc hf
 cases hg:(great x || great y)
 ·have hsub:sub x y = Fx.told (x - y):=by simp [sub,hg]
  rw [hsub]
  rw [hg] at C1
  have hx:-4611686018427387903 <= x/\x <= 4611686018427387903:=(not_great x).1 (by simp at hg;exact hg.1)
  have hy:-4611686018427387903 <= y/\y <= 4611686018427387903:=(not_great y).1 (by simp at hg;exact hg.2)
  have C2:Hid _:=tell_any b off f (x - y) _ hc' hf'
  have K1:Hid _:=C1
  have HB:Hid _:=hb
  clear C1 hb hc hf hc' hf' hg hsub
  go_enter Tryz.func106,Tryz.ntmps106
  go_wp2_with (first | (go_at_call 117;refine (Calls.mono K1.out ?_);rintro e w' ⟨rfl,rfl⟩) | (go_at_call 119;refine (Calls.mono C2.out ?_);rintro e w' ⟨rfl,hb2⟩))
  go_ret
  exact ⟨rfl,mark_after HB.out hb2⟩
 ·have hsub:sub x y = none:=by simp only [sub,hg,if_true]
  rw [hsub]
  rw [hg] at C1
  have C2:Hid _:=none_any b off f _ hc' hf'
  have K1:Hid _:=C1
  have HB:Hid _:=set_after (p:=⟨b,off,none⟩) (v:=.bool true) hb
  clear C1 hb hc hf hc' hf' hg hsub
  go_enter Tryz.func106,Tryz.ntmps106
  go_wp2_with (first | (go_at_call 117;refine (Calls.mono K1.out ?_);rintro e w' ⟨rfl,rfl⟩) | (go_at_call 118;refine (Calls.mono C2.out ?_);rintro e w' ⟨rfl,rfl⟩))
  go_ret
  exact ⟨rfl,HB.out⟩
end
section
open Go.RowKit Fx
theorem norm_no (b off:Nat) (f:Bool) (zs:List Int) (bl ol cap:Nat) (w:World) (hc:w.cell? ⟨b,off,none⟩ = some (.bool f)) (hf:w.frozen? ⟨b,off,none⟩ = false)
  (hlen:zs.length <= 4611686018427387904) (hl:∀ k,k < zs.length->w.cell? ⟨bl,ol + k,none⟩ = some (.int .i64 (zs.getD k 0))) (hno:8 < zs.length \/ zs.any great = true) :
  Calls Tryz.prog 126 #[.pointer (some ⟨b,off,none⟩),.slice (some ⟨bl,ol,none⟩) zs.length cap] w fun e w'=>e = .returned (.int .i64 0)/\w' = w.setCell ⟨b,off,none⟩ (.bool true):=by
 have C2:Hid _:=none_any b off f w hc hf
 have C1:=great_any zs bl ol cap w hlen hl
 clear hl hc hf
 by_cases h8:8 < zs.length
 ·clear C1 hno
  go_enter Tryz.func126,Tryz.ntmps126
  go_wp2_with (first | (go_at_call 118;refine (Calls.mono C2.out ?_);rintro e w' ⟨rfl,rfl⟩))
  go_ret
  exact ⟨rfl,rfl⟩
 ·have hg:zs.any great = true:=hno.resolve_left h8
  rw [hg] at C1
  have K1:Hid _:=C1
  clear C1 hno hg
  go_enter Tryz.func126,Tryz.ntmps126
  go_wp2_with (first | (go_at_call 117;refine (Calls.mono K1.out ?_);rintro e w' ⟨rfl,rfl⟩) | (go_at_call 118;refine (Calls.mono C2.out ?_);rintro e w' ⟨rfl,rfl⟩))
  go_ret
  exact ⟨rfl,rfl⟩
theorem sum_end {w wr w1 w2:World} {u0 u1:Value} (v0 v1:Value) (HB:Below w.heap.size w wr) (hsz:w.heap.size < wr.heap.size) (hb1:Below wr.drew.heap.size wr.drew w1) (hb2:Below w1.heap.size w1 w2)
  (r0:w2.cell? ⟨w.heap.size,0,none⟩ = some u0) (r1:w2.cell? ⟨w.heap.size,1,none⟩ = some u1) (s0:w2.frozen? ⟨w.heap.size,0,none⟩ = false) (s1:w2.frozen? ⟨w.heap.size,1,none⟩ = false) :
  Below w.heap.size w ((w2.setCell ⟨w.heap.size,0,none⟩ v0).setCell ⟨w.heap.size,1,none⟩ v1)/\w.heap.size < ((w2.setCell ⟨w.heap.size,0,none⟩ v0).setCell ⟨w.heap.size,1,none⟩ v1).heap.size /\
  ((w2.setCell ⟨w.heap.size,0,none⟩ v0).setCell ⟨w.heap.size,1,none⟩ v1).cell? ⟨w.heap.size,0,none⟩ = some v0/\((w2.setCell ⟨w.heap.size,0,none⟩ v0).setCell ⟨w.heap.size,1,none⟩ v1).cell? ⟨w.heap.size,1,none⟩ = some v1 /\
  ((w2.setCell ⟨w.heap.size,0,none⟩ v0).setCell ⟨w.heap.size,1,none⟩ v1).frozen? ⟨w.heap.size,0,none⟩ = false/\((w2.setCell ⟨w.heap.size,0,none⟩ v0).setCell ⟨w.heap.size,1,none⟩ v1).frozen? ⟨w.heap.size,1,none⟩ = false:=by
 have a1:Below w.heap.size w w1:=(HB.drew).trans (hb1.mono (by simp;omega))
 have a2:=below_step a1 hb2
 have h1:=hb1.size
 have h2:=hb2.size
 simp at h1
 refine ⟨(a2.setCell (Nat.le_refl _) _).setCell (Nat.le_refl _) _,?_,?_,?_,?_,?_⟩
 ·simp;omega
 ·simp [go_sem,r0]
 ·simp [go_sem,r1]
 ·simp [go_sem,s0]
 ·simp [go_sem,s1]
theorem norm_yes (b off:Nat) (f:Bool) (zs:List Int) (bl ol cap:Nat) (w:World) (hc:w.cell? ⟨b,off,none⟩ = some (.bool f)) (hf:w.frozen? ⟨b,off,none⟩ = false)
  (hl:∀ k,k < zs.length->w.cell? ⟨bl,ol + k,none⟩ = some (.int .i64 (zs.getD k 0))) (hlen:zs.length <= 8) (hg:zs.any great = false) :
  Calls Tryz.prog 126 #[.pointer (some ⟨b,off,none⟩),.slice (some ⟨bl,ol,none⟩) zs.length cap] w fun e w'=>e = .returned (.int .i64 ((Fx.told (isq (prods zs zs).toNat)).getD 0))/\Below w.heap.size (mark ⟨b,off,none⟩ (Fx.told (isq (prods zs zs).toNat)) w) w':=by
 obtain ⟨S,hS⟩:∃ S,S = prods zs zs:=⟨_,rfl⟩
 rw [<- hS]
 have hb:=prods_bound zs zs hg hg
 have hs:=prods_self zs
 rw [<- hS] at hb hs
 have hS1:S < 170141183460469231731687303715884105728:=by omega
 have C4:=fun w=>root_any S w hs hS1
 have HS0:Hid _:=hS
 clear hb hS hS1 hs
 have C1:=great_any zs bl ol cap w (by omega) hl
 rw [hg] at C1
 have K1:Hid _:=C1
 have K0:Hid _:=C4
 clear C4
 have HC:Hid _:=hc
 have HF:Hid _:=hf
 have HL:Hid _:=hl
 have HG:Hid _:=hg
 clear C1 hc hf hl hg
 go_enter Tryz.func126,Tryz.ntmps126
 go_wp2_with (first | (go_at_call 117;refine (Calls.mono K1.out ?_);rintro e w' ⟨rfl,hw⟩;rw [hw];clear hw))
 go_loopw [19] (fun i wr=>∃ (k:Nat) (X:Int),k <= zs.length/\i = .int .i64 k/\Hid (X = prods (zs.take k) (zs.take k))/\Hid (Below w.heap.size w wr)/\w.heap.size < wr.heap.size/\wr.cell? ⟨w.heap.size,0,none⟩ = some (.int .u64 (X / 18446744073709551616 % 18446744073709551616))/\wr.cell? ⟨w.heap.size,1,none⟩ = some (.int .u64 (X % 18446744073709551616))/\wr.frozen? ⟨w.heap.size,0,none⟩ = false/\wr.frozen? ⟨w.heap.size,1,none⟩ = false) (fun i _=>zs.length - (intOf i).toNat)
 case atStart=>exact ⟨0,0,Nat.zero_le _,rfl,by simp [Hid,prods],new_after _ _,by simp,by simp,by simp,by simp,by simp⟩
 case round =>
  obtain ⟨k,X,hk,rfl,HX,HB,hsz,d0,d1,f0,f1⟩:=hrel
  by_cases hlt:k < zs.length
  ·have hcell:=cell_after HB.out (HL.out k hlt)
   have hz:=(not_great _).1 (getD_small HG.out hlt)
   have HS:Hid _:=prods_step k zs zs hlt hlt
   obtain ⟨z,ez⟩:∃ z,zs.getD k 0 = z:=⟨_,rfl⟩
   rw [ez] at hcell hz HS
   clear ez
   have C3:Hid _:=fun w=>product_any z z w (by omega) (by omega) (by omega) (by omega)
   have C4:Hid _:=fun w=>plus_any X (z * z) w
   obtain ⟨xh,hxh⟩:∃ u,u = X / 18446744073709551616 % 18446744073709551616:=⟨_,rfl⟩
   obtain ⟨xl,hxl⟩:∃ u,u = X % 18446744073709551616:=⟨_,rfl⟩
   rw [<- hxh] at d0
   rw [<- hxl] at d1
   rw [<- hxh,<- hxl] at C4
   clear hxh hxl
   go_wp2
   go_region_with (first
    | (go_at_call 120;refine (Calls.mono (C3.out _) ?_);rintro e w1 ⟨rfl,hb1⟩;have p0:=cell_after hb1 d0;have p1:=cell_after hb1 d1;have q0:=frozen_after hb1 d0 f0;have q1:=frozen_after hb1 d1 f1;have hs1:=hb1.size)
    | (go_at_call 145;refine (Calls.mono (C4.out _) ?_);rintro e w2 ⟨rfl,hb2⟩;have r0:=cell_after hb2 p0;have r1:=cell_after hb2 p1;have s0:=frozen_after hb2 p0 q0;have s1:=frozen_after hb2 p1 q1;have hs2:=hb2.size))
   all_goals go_wp2
   all_goals go_roundw
   all_goals try (case rel=>obtain ⟨m1,m2,m3,m4,m5,m6⟩:=sum_end (.int .u64 ((X + z * z) / 18446744073709551616 % 18446744073709551616)) (.int .u64 ((X + z * z) % 18446744073709551616)) HB.out hsz hb1 hb2 r0 r1 s0 s1;exact ⟨k + 1,X + z * z,by omega,by go_num,by show _ = _;rw [HS.out,HX.out],m1,m2,m3,m4,m5,m6⟩)
   all_goals try (case measure=>simp [intOf];omega)
  ·obtain rfl:k = zs.length:=by omega
   obtain rfl:X = S:=by have:=HX.out;rw [List.take_length] at this;rw [this,HS0.out]
   have C4:=K0.out
   clear K0 HX HS0 hk hlt
   have hisq0:(0:Int) <= (isq X.toNat:Int):=by omega
   obtain ⟨xh,hxh⟩:∃ u,u = X / 18446744073709551616 % 18446744073709551616:=⟨_,rfl⟩
   obtain ⟨xl,hxl⟩:∃ u,u = X % 18446744073709551616:=⟨_,rfl⟩
   rw [<- hxh] at d0
   rw [<- hxl] at d1
   rw [<- hxh,<- hxl] at C4
   clear hxh hxl
   have HB':=HB.out
   by_cases hfit:(isq X.toNat:Int) <= 4611686018427387903
   ·rw [IntWalk.wrap64_in _ (by omega),decide_eq_true hfit] at C4
    have K4:Hid _:=C4
    clear C4 hfit hisq0
    go_wp2_with (first
     | (go_at_call 148;refine (Calls.mono (K4.out _) ?_);rintro e w2 ⟨rfl,hb2⟩;have B2:Hid _:=below_step HB.out hb2)
     | (go_at_call 119;refine (Calls.mono (tell_any b off f _ _ (cell_after B2.out HC.out) (frozen_after B2.out HC.out HF.out)) ?_);rintro e w3 ⟨rfl,hb3⟩))
    go_ret
    exact ⟨rfl,mark_after B2.out hb3⟩
   ·have ht:Fx.told (isq X.toNat) = none:=by
     have hgr:great (isq X.toNat) = true:=by rw [great_iff];omega
     simp only [Fx.told,hgr];rfl
    rw [decide_eq_false hfit] at C4
    have K4:Hid _:=C4
    have HT:Hid _:=ht
    clear C4 hfit hisq0 ht
    go_wp2_with (first
     | (go_at_call 148;refine (Calls.mono (K4.out _) ?_);rintro e w2 ⟨rfl,hb2⟩;have B2:Hid _:=below_step HB.out hb2)
     | (go_at_call 119;refine (Calls.mono (tell_any_none b off f _ _ (cell_after B2.out HC.out) (frozen_after B2.out HC.out HF.out)) ?_);rintro e w3 ⟨rfl,hb3⟩))
    go_ret
    rw [HT.out]
    exact ⟨rfl,mark_after B2.out hb3⟩
theorem norm_any (b off:Nat) (f:Bool) (zs:List Int) (bl ol cap:Nat) (w:World) (hc:w.cell? ⟨b,off,none⟩ = some (.bool f)) (hf:w.frozen? ⟨b,off,none⟩ = false)
  (hl:∀ k,k < zs.length->w.cell? ⟨bl,ol + k,none⟩ = some (.int .i64 (zs.getD k 0))) (hlen:zs.length <= 4611686018427387904) :
  Calls Tryz.prog 126 #[.pointer (some ⟨b,off,none⟩),.slice (some ⟨bl,ol,none⟩) zs.length cap] w fun e w'=>e = .returned (.int .i64 ((norm zs).getD 0))/\Below w.heap.size (mark ⟨b,off,none⟩ (norm zs) w) w':=by
 by_cases h:8 < zs.length \/ zs.any great = true
 ·have hn:norm zs = none:=by
   unfold norm
   rcases h with h | h
   ·rw [if_pos h]
   ·simp only [h,if_true,ite_self]
  rw [hn]
  exact (norm_no b off f zs bl ol cap w hc hf hlen hl h).mono fun e w' ⟨a,c⟩=>⟨a,by rw [c];exact Below.refl _ _⟩
 ·have h8:¬ 8 < zs.length:=fun g=>h (Or.inl g)
  have hg:zs.any great = false:=by cases e:zs.any great with
   | false=>rfl
   | true=>exact absurd (Or.inr e) h
  have hn:norm zs = Fx.told (isq (prods zs zs).toNat):=by unfold norm;simp only [h8,hg,if_false];rfl
  rw [hn]
  exact norm_yes b off f zs bl ol cap w hc hf hl (by omega) hg
end
section
open Go.RowKit Fx
def Step (f:Bool) (o:Option Int) (v:Int) (g:Bool):Prop:=v = o.getD 0/\g = (f || o.isNone)
structure After (p:Addr) (g:Bool) (W W':World):Prop where
 cell:W'.cell? p = some (.bool g)
 frozen:W'.frozen? p = false
 size:W.heap.size <= W'.heap.size
 other:∀ q:Addr,q.block < W.heap.size->q.block ≠ p.block->W'.cell? q = W.cell? q/\W'.frozen? q = W.frozen? q
 below:∀ (B:Nat) (w:World),Below B w W->B <= p.block->B <= W.heap.size->Below B w W'
 kept:W'.os = W.os/\W'.tape = W.tape/\W'.output = W.output/\∀ k,k < W.heap.size->k ≠ p.block->W'.heap[k]? = W.heap[k]?
 beside:p.block < W.heap.size->∀ o,o ≠ p.off->W'.cell? ⟨p.block,o,none⟩ = W.cell? ⟨p.block,o,none⟩/\W'.frozen? ⟨p.block,o,none⟩ = W.frozen? ⟨p.block,o,none⟩
theorem After.cellOf {p q:Addr} {g:Bool} {W W':World} (h:After p g W W') {v:Value} (hq:W.cell? q = some v) (hne:q.block ≠ p.block):W'.cell? q = some v:=(h.other q (World.block_lt_of_cell? _ _ hq) hne).1.trans hq
theorem After.frozenOf {p q:Addr} {g:Bool} {W W':World} (h:After p g W W') {v:Value} (hq:W.cell? q = some v) (hf:W.frozen? q = false) (hne:q.block ≠ p.block):W'.frozen? q = false:=(h.other q (World.block_lt_of_cell? _ _ hq) hne).2.trans hf
theorem After.on {w W W':World} {p:Addr} {g:Bool} (h:After p g W W') (hb:Below w.heap.size w W) (hp:w.heap.size <= p.block):Below w.heap.size w W':=h.below _ _ hb hp hb.size
theorem after_of {b off:Nat} {f:Bool} {o:Option Int} {W W':World} (hb:Below W.heap.size (mark ⟨b,off,none⟩ o W) W') (hc:W.cell? ⟨b,off,none⟩ = some (.bool f)) (hf:W.frozen? ⟨b,off,none⟩ = false) :
  After ⟨b,off,none⟩ (f || o.isNone) W W':=by
 have hlt:=World.block_lt_of_cell? _ _ hc
 cases o with
 | some n =>
  have hb:Below W.heap.size W W':=hb
  refine ⟨by rw [hb.cell hlt,hc];simp,by rw [hb.frozen hlt,hf],hb.size,fun q hq _=>⟨hb.cell hq,hb.frozen hq⟩,fun B w h _ hB=>h.trans (hb.mono hB),⟨hb.os,hb.tape,hb.output,fun k hk _=>hb.block k hk⟩,fun hp o _=>⟨hb.cell hp,hb.frozen hp⟩⟩
 | none =>
  have hb:Below W.heap.size (W.setCell ⟨b,off,none⟩ (.bool true)) W':=hb
  have hs:=hb.size
  simp [World.setCell] at hs
  refine ⟨?_,?_,by simpa using hs,fun q hq hne=>⟨?_,?_⟩,fun B w h hp hB=>(h.setCell hp _).trans (hb.mono hB),⟨hb.os,hb.tape,hb.output,fun k hk hne=>(hb.block k hk).trans (Below.heap_setCell _ _ _ _ hne)⟩,fun hp o ho=>⟨?_,?_⟩⟩
  ·rw [hb.cell hlt];simp [go_sem,hc]
  ·rw [hb.frozen hlt];simp [go_sem,hf]
  ·rw [hb.cell hq];exact World.cell?_of_block (w:=W) (Below.heap_setCell _ _ _ _ hne)
  ·rw [hb.frozen hq];exact World.frozen?_of_block (w:=W) (Below.heap_setCell _ _ _ _ hne)
  ·exact (hb.cell (p:=⟨b,o,none⟩) hlt).trans (World.cell?_setCell_other _ _ _ _ (fun e=>ho (Addr.mk.inj e).2.1.symm))
  ·exact (hb.frozen (p:=⟨b,o,none⟩) hlt).trans (by simp [go_sem])
theorem add_law (b off:Nat) (f:Bool) (x y:Int) (W:World) (hc:W.cell? ⟨b,off,none⟩ = some (.bool f)) (hf:W.frozen? ⟨b,off,none⟩ = false) :
  Calls Tryz.prog 105 #[.pointer (some ⟨b,off,none⟩),.int .i64 x,.int .i64 y] W fun e W'=>∃ v g,e = .returned (.int .i64 v)/\Hid (Step f (add x y) v g)/\Hid (After ⟨b,off,none⟩ g W W'):=
 (add_any b off f x y W hc hf).mono fun _ _ ⟨a,h⟩=>⟨_,_,a,⟨rfl,rfl⟩,after_of h hc hf⟩
theorem sub_law (b off:Nat) (f:Bool) (x y:Int) (W:World) (hc:W.cell? ⟨b,off,none⟩ = some (.bool f)) (hf:W.frozen? ⟨b,off,none⟩ = false) :
  Calls Tryz.prog 106 #[.pointer (some ⟨b,off,none⟩),.int .i64 x,.int .i64 y] W fun e W'=>∃ v g,e = .returned (.int .i64 v)/\Hid (Step f (sub x y) v g)/\Hid (After ⟨b,off,none⟩ g W W'):=
 (sub_any b off f x y W hc hf).mono fun _ _ ⟨a,h⟩=>⟨_,_,a,⟨rfl,rfl⟩,after_of h hc hf⟩
theorem mul_law (b off:Nat) (f:Bool) (x y:Int) (W:World) (hc:W.cell? ⟨b,off,none⟩ = some (.bool f)) (hf:W.frozen? ⟨b,off,none⟩ = false) :
  Calls Tryz.prog 69 #[.pointer (some ⟨b,off,none⟩),.int .i64 x,.int .i64 y] W fun e W'=>∃ v g,e = .returned (.int .i64 v)/\Hid (Step f (mul x y) v g)/\Hid (After ⟨b,off,none⟩ g W W'):=
 (mul_any b off f x y W hc hf).mono fun _ _ ⟨a,h⟩=>⟨_,_,a,⟨rfl,rfl⟩,after_of h hc hf⟩
theorem div_law (b off:Nat) (f:Bool) (x y:Int) (W:World) (hc:W.cell? ⟨b,off,none⟩ = some (.bool f)) (hf:W.frozen? ⟨b,off,none⟩ = false) :
  Calls Tryz.prog 102 #[.pointer (some ⟨b,off,none⟩),.int .i64 x,.int .i64 y] W fun e W'=>∃ v g,e = .returned (.int .i64 v)/\Hid (Step f (ratio x 4294967296 y) v g)/\Hid (After ⟨b,off,none⟩ g W W'):=
 (div_any b off f x y W hc hf).mono fun _ _ ⟨a,h⟩=>⟨_,_,a,⟨rfl,rfl⟩,after_of h hc hf⟩
theorem norm3_law (b off:Nat) (f:Bool) (x y z:Int) (W:World) (hc:W.cell? ⟨b,off,none⟩ = some (.bool f)) (hf:W.frozen? ⟨b,off,none⟩ = false) :
  Calls Tryz.prog 126 #[.pointer (some ⟨b,off,none⟩),.slice (some ⟨W.heap.size,0,none⟩) 3 3] (W.alloc (.cells #[.int .i64 x,.int .i64 y,.int .i64 z] 3)) fun e W'=>∃ v g,e = .returned (.int .i64 v)/\Hid (Step f (norm [x,y,z]) v g)/\Hid (After ⟨b,off,none⟩ g W W'):=by
 have hb:=new_after W (.cells #[.int .i64 x,.int .i64 y,.int .i64 z] 3)
 have hc':=cell_after hb hc
 have hf':=frozen_after hb hc hf
 have h:=norm_any b off f [x,y,z] W.heap.size 0 3 (W.alloc (.cells #[.int .i64 x,.int .i64 y,.int .i64 z] 3)) hc' hf' (fun k hk=>by
  match k,hk with
  | 0,_=>simp
  | 1,_=>simp
  | 2,_=>simp) (by simp)
 exact h.mono fun _ _ ⟨a,h⟩=>⟨_,_,a,⟨rfl,rfl⟩,after_of (mark_after hb h) hc hf⟩
end
section
open Go.RowKit Fx
def NRow (w:World) (a:Option Addr) (zs:List Int):Prop:=zs.length = 0 \/ ∃ b off,a = some ⟨b,off,none⟩/\∀ k,k < zs.length->w.cell? ⟨b,off + k,none⟩ = some (.int .i64 (zs.getD k 0))
theorem great_row (zs:List Int) (a:Option Addr) (cap:Nat) (w:World) (hlen:zs.length <= 4611686018427387904) (h:NRow w a zs) :
  Calls Tryz.prog 117 #[.slice a zs.length cap] w fun e w'=>e = .returned (.bool (zs.any great))/\w' = w:=by
 rcases h with h | ⟨b,off,rfl,h⟩
 ·obtain rfl:zs = []:=List.length_eq_zero_iff.1 h
  exact great_nil a cap w
 ·exact great_any zs b off cap w hlen h
theorem dot_no (b off:Nat) (f:Bool) (zs ys:List Int) (a c:Option Addr) (cap cap':Nat) (w:World) (hc:w.cell? ⟨b,off,none⟩ = some (.bool f)) (hf:w.frozen? ⟨b,off,none⟩ = false)
  (hz:zs.length <= 4611686018427387904) (hy:ys.length <= 4611686018427387904) (ha:NRow w a zs) (hb:NRow w c ys) (hno:zs.length ≠ ys.length \/ 8 < zs.length \/ zs.any great = true \/ ys.any great = true) :
  Calls Tryz.prog 108 #[.pointer (some ⟨b,off,none⟩),.slice a zs.length cap,.slice c ys.length cap'] w fun e w'=>e = .returned (.int .i64 0)/\w' = w.setCell ⟨b,off,none⟩ (.bool true):=by
 have C2:Hid _:=none_any b off f w hc hf
 have C1:=great_row zs a cap w hz ha
 have C3:=great_row ys c cap' w hy hb
 clear ha hb hc hf
 by_cases h1:zs.length = ys.length
 ·have h1':((zs.length:Int) != (ys.length:Int)) = false:=by simp [h1]
  by_cases h8:8 < zs.length
  ·clear C1 C3 hno h1
   go_enter Tryz.func108,Tryz.ntmps108
   go_wp2_with (first | (go_at_call 118;refine (Calls.mono C2.out ?_);rintro e w' ⟨rfl,rfl⟩))
   go_ret
   exact ⟨rfl,rfl⟩
  ·cases hg:zs.any great
   ·have hg2:ys.any great = true:=by
     rcases hno with h | h | h | h
     ·exact absurd h1 h
     ·exact absurd h h8
     ·rw [hg] at h;cases h
     ·exact h
    rw [hg] at C1
    rw [hg2] at C3
    have K1:Hid _:=C1
    have K3:Hid _:=C3
    clear C1 C3 hno h1 hg hg2
    go_enter Tryz.func108,Tryz.ntmps108
    go_wp2_with (fail)
    refine (Calls.mono K1.out ?_);rintro e w' ⟨rfl,hw⟩;rw [hw];clear hw
    go_wp2_with (fail)
    refine (Calls.mono K3.out ?_);rintro e w' ⟨rfl,hw⟩;rw [hw];clear hw
    go_wp2_with (fail)
    refine (Calls.mono C2.out ?_);rintro e w' ⟨rfl,rfl⟩
    go_wp2_with (fail)
    go_ret
    exact ⟨rfl,rfl⟩
   ·rw [hg] at C1
    have K1:Hid _:=C1
    clear C1 C3 hno h1 hg
    go_enter Tryz.func108,Tryz.ntmps108
    go_wp2_with (fail)
    refine (Calls.mono K1.out ?_);rintro e w' ⟨rfl,hw⟩;rw [hw];clear hw
    go_wp2_with (fail)
    refine (Calls.mono C2.out ?_);rintro e w' ⟨rfl,rfl⟩
    go_wp2_with (fail)
    go_ret
    exact ⟨rfl,rfl⟩
 ·have h1':((zs.length:Int) != (ys.length:Int)) = true:=by simp;omega
  clear C1 C3 hno
  go_enter Tryz.func108,Tryz.ntmps108
  go_wp2_with (first | (go_at_call 118;refine (Calls.mono C2.out ?_);rintro e w' ⟨rfl,rfl⟩))
  go_ret
  exact ⟨rfl,rfl⟩
theorem dot_yes (b off:Nat) (f:Bool) (zs ys:List Int) (a c:Option Addr) (cap cap':Nat) (w:World) (hc:w.cell? ⟨b,off,none⟩ = some (.bool f)) (hf:w.frozen? ⟨b,off,none⟩ = false)
  (ha:NRow w a zs) (hb:NRow w c ys) (h1:zs.length = ys.length) (hlen:zs.length <= 8) (hg:zs.any great = false) (hg2:ys.any great = false) :
  Calls Tryz.prog 108 #[.pointer (some ⟨b,off,none⟩),.slice a zs.length cap,.slice c ys.length cap'] w fun e w'=>e = .returned (.int .i64 ((Fx.told (prods zs ys / 4294967296)).getD 0))/\Below w.heap.size (mark ⟨b,off,none⟩ (Fx.told (prods zs ys / 4294967296)) w) w':=by
 obtain ⟨S,hS⟩:∃ S,S = prods zs ys:=⟨_,rfl⟩
 rw [<- hS]
 have hbd:=prods_bound zs ys hg hg2
 rw [<- hS] at hbd
 have hS0:-170141183460469231731687303715884105728 <= S:=by omega
 have hS1:S < 170141183460469231731687303715884105728:=by omega
 have K0:Hid _:=fun w=>byOne_any S w hS0 hS1
 have HS0:Hid _:=hS
 clear hbd hS hS0 hS1
 have C1:=great_row zs a cap w (by omega) ha
 have C3:=great_row ys c cap' w (by omega) hb
 rw [hg] at C1
 rw [hg2] at C3
 have K1:Hid _:=C1
 have K3:Hid _:=C3
 have HC:Hid _:=hc
 have HF:Hid _:=hf
 have HA:Hid _:=ha
 have HD:Hid _:=hb
 have HG:Hid _:=hg
 have HG2:Hid _:=hg2
 have H1:Hid _:=h1
 have h1':((zs.length:Int) != (ys.length:Int)) = false:=by simp [h1]
 have hy8:ys.length <= 8:=by omega
 clear C1 C3 hc hf ha hb hg hg2 h1
 go_enter Tryz.func108,Tryz.ntmps108
 go_wp2_with (fail)
 refine (Calls.mono K1.out ?_);rintro e w' ⟨rfl,hw⟩;rw [hw];clear hw
 go_wp2_with (fail)
 refine (Calls.mono K3.out ?_);rintro e w' ⟨rfl,hw⟩;rw [hw];clear hw
 go_wp2_with (fail)
 go_loopw [32] (fun i wr=>∃ (k:Nat) (X:Int),k <= zs.length/\i = .int .i64 k/\Hid (X = prods (zs.take k) (ys.take k))/\Hid (Below w.heap.size w wr)/\w.heap.size < wr.heap.size/\wr.cell? ⟨w.heap.size,0,none⟩ = some (.int .u64 (X / 18446744073709551616 % 18446744073709551616))/\wr.cell? ⟨w.heap.size,1,none⟩ = some (.int .u64 (X % 18446744073709551616))/\wr.frozen? ⟨w.heap.size,0,none⟩ = false/\wr.frozen? ⟨w.heap.size,1,none⟩ = false) (fun i _=>zs.length - (intOf i).toNat)
 case atStart=>exact ⟨0,0,Nat.zero_le _,rfl,by simp [Hid,prods],new_after _ _,by simp,by simp,by simp,by simp,by simp⟩
 case round =>
  obtain ⟨k,X,hk,rfl,HX,HB,hsz,d0,d1,f0,f1⟩:=hrel
  by_cases hlt:k < zs.length
  ·have hlt2:k < ys.length:=by have:=H1.out;omega
   rcases HA.out with h | ⟨ba,oa,rfl,hza⟩
   ·omega
   rcases HD.out with h | ⟨bb,ob,rfl,hyb⟩
   ·omega
   have hcell:=cell_after HB.out (hza k hlt)
   have hcell2:=cell_after HB.out (hyb k hlt2)
   have hz:=(not_great _).1 (getD_small HG.out hlt)
   have hy:=(not_great _).1 (getD_small HG2.out hlt2)
   have HS:Hid _:=prods_step k zs ys hlt hlt2
   obtain ⟨z,ez⟩:∃ z,zs.getD k 0 = z:=⟨_,rfl⟩
   obtain ⟨y,ey⟩:∃ y,ys.getD k 0 = y:=⟨_,rfl⟩
   rw [ez] at hcell hz HS
   rw [ey] at hcell2 hy HS
   clear ez ey hza hyb HA HD
   have C3:Hid _:=fun w=>product_any z y w (by omega) (by omega) (by omega) (by omega)
   have C4:Hid _:=fun w=>plus_any X (z * y) w
   obtain ⟨xh,hxh⟩:∃ u,u = X / 18446744073709551616 % 18446744073709551616:=⟨_,rfl⟩
   obtain ⟨xl,hxl⟩:∃ u,u = X % 18446744073709551616:=⟨_,rfl⟩
   rw [<- hxh] at d0
   rw [<- hxl] at d1
   rw [<- hxh,<- hxl] at C4
   clear hxh hxl
   have hi0:(0:Int) <= (k:Int):=by omega
   have hi1:(k:Int) < (ys.length:Int):=by omega
   go_wp2
   go_region_with (first
    | (go_at_call 120;refine (Calls.mono (C3.out _) ?_);rintro e w1 ⟨rfl,hb1⟩;have p0:=cell_after hb1 d0;have p1:=cell_after hb1 d1;have q0:=frozen_after hb1 d0 f0;have q1:=frozen_after hb1 d1 f1;have hs1:=hb1.size)
    | (go_at_call 145;refine (Calls.mono (C4.out _) ?_);rintro e w2 ⟨rfl,hb2⟩;have r0:=cell_after hb2 p0;have r1:=cell_after hb2 p1;have s0:=frozen_after hb2 p0 q0;have s1:=frozen_after hb2 p1 q1;have hs2:=hb2.size))
   all_goals go_wp2
   all_goals go_roundw
   all_goals try (case rel=>obtain ⟨m1,m2,m3,m4,m5,m6⟩:=sum_end (.int .u64 ((X + z * y) / 18446744073709551616 % 18446744073709551616)) (.int .u64 ((X + z * y) % 18446744073709551616)) HB.out hsz hb1 hb2 r0 r1 s0 s1;exact ⟨k + 1,X + z * y,by omega,by go_num,by show _ = _;rw [HS.out,HX.out],m1,m2,m3,m4,m5,m6⟩)
   all_goals try (case measure=>simp [intOf];omega)
  ·obtain rfl:k = zs.length:=by omega
   obtain rfl:X = S:=by have:=HX.out;rw [List.take_length,H1.out,List.take_length] at this;rw [this,HS0.out]
   have C4:=K0.out
   clear K0 HX HS0 hk hlt
   obtain ⟨xh,hxh⟩:∃ u,u = X / 18446744073709551616 % 18446744073709551616:=⟨_,rfl⟩
   obtain ⟨xl,hxl⟩:∃ u,u = X % 18446744073709551616:=⟨_,rfl⟩
   rw [<- hxh] at d0
   rw [<- hxl] at d1
   rw [<- hxh,<- hxl] at C4
   clear hxh hxl
   by_cases hfit:-9223372036854775808 <= X / 4294967296/\X / 4294967296 < 9223372036854775808
   ·rw [IntWalk.wrap64_in _ (by omega),decide_eq_true hfit] at C4
    have K4:Hid _:=C4
    clear C4 hfit
    go_wp2_with (first
     | (go_at_call 121;refine (Calls.mono (K4.out _) ?_);rintro e w2 ⟨rfl,hb2⟩;have B2:Hid _:=below_step HB.out hb2)
     | (go_at_call 119;refine (Calls.mono (tell_any b off f _ _ (cell_after B2.out HC.out) (frozen_after B2.out HC.out HF.out)) ?_);rintro e w3 ⟨rfl,hb3⟩))
    go_ret
    exact ⟨rfl,mark_after B2.out hb3⟩
   ·have ht:Fx.told (X / 4294967296) = none:=by
     have hgr:great (X / 4294967296) = true:=by rw [great_iff];omega
     simp only [Fx.told,hgr];rfl
    rw [decide_eq_false hfit] at C4
    have K4:Hid _:=C4
    have HT:Hid _:=ht
    clear C4 hfit ht
    go_wp2_with (first
     | (go_at_call 121;refine (Calls.mono (K4.out _) ?_);rintro e w2 ⟨rfl,hb2⟩;have B2:Hid _:=below_step HB.out hb2)
     | (go_at_call 119;refine (Calls.mono (tell_any_none b off f _ _ (cell_after B2.out HC.out) (frozen_after B2.out HC.out HF.out)) ?_);rintro e w3 ⟨rfl,hb3⟩))
    go_ret
    rw [HT.out]
    exact ⟨rfl,mark_after B2.out hb3⟩
theorem fdot_any (b off:Nat) (f:Bool) (zs ys:List Int) (a c:Option Addr) (cap cap':Nat) (w:World) (hc:w.cell? ⟨b,off,none⟩ = some (.bool f)) (hf:w.frozen? ⟨b,off,none⟩ = false)
  (hz:zs.length <= 4611686018427387904) (hy:ys.length <= 4611686018427387904) (ha:NRow w a zs) (hb:NRow w c ys) :
  Calls Tryz.prog 108 #[.pointer (some ⟨b,off,none⟩),.slice a zs.length cap,.slice c ys.length cap'] w fun e W'=>∃ v g,e = .returned (.int .i64 v)/\Hid (Step f (dot zs ys) v g)/\Hid (After ⟨b,off,none⟩ g w W'):=by
 by_cases h:zs.length ≠ ys.length \/ 8 < zs.length \/ zs.any great = true \/ ys.any great = true
 ·have hn:dot zs ys = none:=by
   unfold dot
   rcases h with h | h | h | h
   ·rw [if_pos h]
   ·simp only [h,if_true,ite_self]
   ·simp only [h,Bool.true_or,if_true,ite_self]
   ·simp only [h,Bool.or_true,if_true,ite_self]
  rw [hn]
  exact (dot_no b off f zs ys a c cap cap' w hc hf hz hy ha hb h).mono fun e w' ⟨x,y⟩=>⟨_,_,x,⟨rfl,rfl⟩,after_of (o:=none) (by rw [y];exact Below.refl _ _) hc hf⟩
 ·have h1:zs.length = ys.length:=by omega
  have h8:¬ 8 < zs.length:=fun g=>h (Or.inr (Or.inl g))
  have hg:zs.any great = false:=by cases e:zs.any great with
   | false=>rfl
   | true=>exact absurd (Or.inr (Or.inr (Or.inl e))) h
  have hg2:ys.any great = false:=by cases e:ys.any great with
   | false=>rfl
   | true=>exact absurd (Or.inr (Or.inr (Or.inr e))) h
  have hn:dot zs ys = Fx.told (prods zs ys / 4294967296):=by
   unfold dot
   rw [if_neg (by omega),if_neg h8,hg,hg2];rfl
  rw [hn]
  exact (dot_yes b off f zs ys a c cap cap' w hc hf ha hb h1 (by omega) hg hg2).mono fun e w' ⟨x,y⟩=>⟨_,_,x,⟨rfl,rfl⟩,after_of y hc hf⟩
end
section
open Go.RowKit Fx
structure Leaves (p:Addr) (W W':World):Prop where
 size:W.heap.size <= W'.heap.size
 other:∀ q:Addr,q.block < W.heap.size->q.block ≠ p.block->W'.cell? q = W.cell? q/\W'.frozen? q = W.frozen? q
 below:∀ (B:Nat) (w:World),Below B w W->B <= p.block->B <= W.heap.size->Below B w W'
 kept:W'.os = W.os/\W'.tape = W.tape/\W'.output = W.output/\∀ k,k < W.heap.size->k ≠ p.block->W'.heap[k]? = W.heap[k]?
 beside:p.block < W.heap.size->∀ o,o ≠ p.off->W'.cell? ⟨p.block,o,none⟩ = W.cell? ⟨p.block,o,none⟩/\W'.frozen? ⟨p.block,o,none⟩ = W.frozen? ⟨p.block,o,none⟩
theorem Leaves.refl (p:Addr) (W:World):Leaves p W W:=⟨Nat.le_refl _,fun _ _ _=>⟨rfl,rfl⟩,fun _ _ h _ _=>h,⟨rfl,rfl,rfl,fun _ _ _=>rfl⟩,fun _ _ _=>⟨rfl,rfl⟩⟩
theorem Leaves.drew {p:Addr} {W w:World} (h:Leaves p W w):Leaves p W w.drew:=⟨h.size,h.other,fun B w' hb h1 h2=>(h.below B w' hb h1 h2).drew,h.kept,h.beside⟩
theorem Leaves.step {p:Addr} {W w w':World} (h:Leaves p W w) (k:Below W.heap.size w w'):Leaves p W w':=by
 refine ⟨Nat.le_trans h.size k.size,fun q hq hne=>?_,fun B w0 hb h1 h2=>(h.below B w0 hb h1 h2).trans (k.mono h2),⟨k.os.trans h.kept.1,k.tape.trans h.kept.2.1,k.output.trans h.kept.2.2.1,fun i hi hne=>(k.block i hi).trans (h.kept.2.2.2 i hi hne)⟩,fun hp o ho=>?_⟩
 ·exact ⟨(k.cell hq).trans (h.other q hq hne).1,(k.frozen hq).trans (h.other q hq hne).2⟩
 ·exact ⟨(k.cell (p:=⟨p.block,o,none⟩) hp).trans (h.beside hp o ho).1,(k.frozen (p:=⟨p.block,o,none⟩) hp).trans (h.beside hp o ho).2⟩
theorem Leaves.alloc {p:Addr} {W w:World} (h:Leaves p W w) (o:Obj):Leaves p W (w.alloc o):=h.step ((new_after w o).mono h.size)
theorem Leaves.set {p:Addr} {W w:World} (h:Leaves p W w) {a:Addr} (ha:W.heap.size <= a.block) (v:Value):Leaves p W (w.setCell a v):=h.step ((Below.refl _ _).setCell ha v)
theorem Leaves.after {p q:Addr} {g:Bool} {W w w':World} (h:Leaves p W w) (a:After q g w w') (hq:W.heap.size <= q.block):Leaves p W w':=
 h.step (a.below _ _ (Below.refl _ _) hq h.size)
theorem Leaves.same {p:Addr} {g:Bool} {W w w':World} (h:Leaves p W w) (a:After p g w w'):Leaves p W w':=by
 refine ⟨Nat.le_trans h.size a.size,fun x hx hne=>?_,fun B w0 hb h1 h2=>a.below B w0 (h.below B w0 hb h1 h2) h1 (Nat.le_trans h2 h.size),⟨a.kept.1.trans h.kept.1,a.kept.2.1.trans h.kept.2.1,a.kept.2.2.1.trans h.kept.2.2.1,fun i hi hne=>(a.kept.2.2.2 i (Nat.lt_of_lt_of_le hi h.size) hne).trans (h.kept.2.2.2 i hi hne)⟩,fun hp o ho=>?_⟩
 ·have hlt:x.block < w.heap.size:=Nat.lt_of_lt_of_le hx h.size
  have:=a.other x hlt hne
  exact ⟨this.1.trans (h.other x hx hne).1,this.2.trans (h.other x hx hne).2⟩
 ·have:=a.beside (Nat.lt_of_lt_of_le hp h.size) o ho
  exact ⟨this.1.trans (h.beside hp o ho).1,this.2.trans (h.beside hp o ho).2⟩
theorem Leaves.done {p:Addr} {g:Bool} {W W':World} (h:Leaves p W W') (hc:W'.cell? p = some (.bool g)) (hf:W'.frozen? p = false):After p g W W':=⟨hc,hf,h.size,h.other,h.below,h.kept,h.beside⟩
theorem After.leaves {p:Addr} {g:Bool} {W W':World} (h:After p g W W'):Leaves p W W':=⟨h.size,h.other,h.below,h.kept,h.beside⟩
theorem After.trans {p:Addr} {g g':Bool} {W W' W'':World} (h:After p g W W') (h':After p g' W' W''):After p g' W W'':=(h.leaves.same h').done h'.cell h'.frozen
structure V3 where
 x:Int
 y:Int
 z:Int
structure V4 where
 w:Int
 x:Int
 y:Int
 z:Int
@[reducible] def V3.val (v:V3):Value:=.agg #[.int .i64 v.x,.int .i64 v.y,.int .i64 v.z]
@[reducible] def V4.val (v:V4):Value:=.agg #[.int .i64 v.w,.int .i64 v.x,.int .i64 v.y,.int .i64 v.z]
def V3.zero:V3:=⟨0,0,0⟩
def V4.zero:V4:=⟨0,0,0,0⟩
end
section
structure Pt where
 x:Int
 y:Int
 z:Int
 deriving DecidableEq
def Pt.O:Pt:=⟨0,0,0⟩
instance:Inhabited Pt:=⟨Pt.O⟩
def Pt.inB (p:Pt) (m:Int):Bool:=decide ((-m <= p.x/\p.x <= m)/\(-m <= p.y/\p.y <= m)/\(-m <= p.z/\p.z <= m))
theorem Pt.inB_iff (p:Pt) (m:Int):p.inB m = true ↔ (-m <= p.x/\p.x <= m)/\(-m <= p.y/\p.y <= m)/\(-m <= p.z/\p.z <= m):=by simp [Pt.inB]
def Pt.by (p:Pt) (n:Int):Pt:=⟨p.x.tdiv n,p.y.tdiv n,p.z.tdiv n⟩
def Pt.neg (p:Pt):Pt:=⟨-p.x,-p.y,-p.z⟩
def Pt.sub (p q:Pt):Pt:=⟨p.x - q.x,p.y - q.y,p.z - q.z⟩
def Pt.dot (p q:Pt):Int:=p.x * q.x + p.y * q.y + p.z * q.z
def Pt.cross (p q:Pt):Pt:=⟨p.y * q.z - p.z * q.y,p.z * q.x - p.x * q.z,p.x * q.y - p.y * q.x⟩
def Pt.g (p:Pt):Nat:=Nat.gcd (Nat.gcd p.x.natAbs p.y.natAbs) p.z.natAbs
def Pt.low (p:Pt):Pt:=if p.g = 0 then p else p.by p.g
def halveF:Nat->Pt->Pt
 | 0,p=>p
 | n + 1,p=>if p.inB 1048576 then p else halveF n (p.by 2)
def Pt.half (p:Pt):Pt:=halveF 43 p
def Pt.short (p:Pt):Pt:=if p.inB 4398046511104 then p.low.half.low else Pt.O
theorem inB_mono {p:Pt} {m n:Int} (h:p.inB m = true) (k:m <= n):p.inB n = true:=by
 rw [Pt.inB_iff] at h ⊢
 omega
def pt (L:List Pt) (i:Nat):Pt:=L[i]?.getD default
theorem pt_mem {L:List Pt} {i:Nat} (h:i < L.length):pt L i ∈ L:=by unfold pt;rw [List.getElem?_eq_getElem h];exact List.getElem_mem h
theorem pt_of_mem {L:List Pt} {p:Pt} (h:p ∈ L):∃ i,i < L.length/\pt L i = p:=by
 obtain ⟨i,hi,e⟩:=List.getElem_of_mem h
 exact ⟨i,hi,by unfold pt;rw [List.getElem?_eq_getElem hi,e];rfl⟩
theorem take_pt {L:List Pt} {i:Nat} (h:i < L.length):L.take (i + 1) = L.take i ++ [pt L i]:=by
 rw [List.take_succ_eq_append_getElem h];unfold pt;rw [List.getElem?_eq_getElem h];rfl
theorem pt_take {L:List Pt} {i n:Nat} (h:i < n):pt (L.take n) i = pt L i:=by unfold pt;rw [List.getElem?_take,if_pos h]
theorem list_same {L M:List Pt} (hl:L.length = M.length) (h:∀ i,i < L.length->pt L i = pt M i):L = M:=by
 apply List.ext_getElem hl
 intro i h1 h2
 have:=h i h1
 unfold pt at this
 rw [List.getElem?_eq_getElem h1,List.getElem?_eq_getElem h2] at this
 exact this
end
section
open Go.RowKit Go.Shelf
def Pt.v (p:Pt):Value:=.agg #[.int .i64 p.x,.int .i64 p.y,.int .i64 p.z]
def fl3:List Pt->List Value
 | []=>[]
 | p :: r=>.int .i64 p.x :: .int .i64 p.y :: .int .i64 p.z :: fl3 r
theorem fl3_length:∀ L:List Pt,(fl3 L).length = L.length * 3
 | []=>rfl
 | p :: r=>by simp only [fl3,List.length_cons,fl3_length r];omega
theorem fl3_at:∀ (L:List Pt) (i:Nat),i < L.length->(fl3 L)[i * 3]? = some (.int .i64 (L[i]?.getD default).x)/\(fl3 L)[i * 3 + 1]? = some (.int .i64 (L[i]?.getD default).y)/\(fl3 L)[i * 3 + 2]? = some (.int .i64 (L[i]?.getD default).z)
 | [],i,h=>by simp at h
 | p :: r,0,_=>⟨rfl,rfl,rfl⟩
 | p :: r,i + 1,h=>by
  have:=fl3_at r i (by simpa using h)
  rw [show (i + 1) * 3 = i * 3 + 3 by omega]
  simpa [fl3] using this
theorem fl3_one (L:List Pt):∀ u ∈ fl3 L,u.oneCell' = true:=by
 induction L with
 | nil=>intro u hu;cases hu
 | cons p r ih =>
  intro u hu
  simp only [fl3,List.mem_cons] at hu
  rcases hu with rfl | rfl | rfl | hu
  ·rfl
  ·rfl
  ·rfl
  ·exact ih u hu
theorem point_info:(Tryz.prog.info? 30).map (fun i=>(i.zero,i.size,i.bytes)) = some (some (.agg #[.int .i64 0,.int .i64 0,.int .i64 0]),3,24):=by kernel_rfl
theorem b_step {w w1 w2:World} (h1:Below w.heap.size w w1) (h2:Below w1.heap.size w1 w2):Below w.heap.size w w2:=h1.trans (h2.mono h1.size)
theorem c_after {w w1:World} {p:Addr} {v:Value} (hb:Below w.heap.size w w1) (hc:w.cell? p = some v):w1.cell? p = some v:=(hb.cell (World.block_lt_of_cell? _ _ hc)).trans hc
theorem n_after (w:World) (o:Obj):Below w.heap.size w (w.alloc o):=(Below.refl _ _).alloc (Nat.le_refl _) _
theorem f_after {w w1:World} {p:Addr} {v:Value} (hb:Below w.heap.size w w1) (hc:w.cell? p = some v) (hf:w.frozen? p = false):w1.frozen? p = false:=(hb.frozen (World.block_lt_of_cell? _ _ hc)).trans hf
theorem early9 {p:Bool} {X Y:Prop} (h:(p = false/\X) \/ (p = true/\Y)) (hp:p = false):X:=by
 rcases h with h | h
 ·exact h.2
 ·rw [hp] at h;cases h.1
theorem late9 {p:Bool} {X Y:Prop} (h:(p = false/\X) \/ (p = true/\Y)) (hp:p = true):Y:=by
 rcases h with h | h
 ·rw [hp] at h;cases h.1
 ·exact h.2
theorem w64 {n:Int} (h1:-9223372036854775808 <= n) (h2:n <= 9223372036854775807):wrap64 n = n:=by unfold wrap64;omega
structure Box3 (W:World) (b:Nat) (q:Pt):Prop where
 c0:W.cell? ⟨b,0,none⟩ = some (.int .i64 q.x)
 c1:W.cell? ⟨b,1,none⟩ = some (.int .i64 q.y)
 c2:W.cell? ⟨b,2,none⟩ = some (.int .i64 q.z)
 f0:W.frozen? ⟨b,0,none⟩ = false
 f1:W.frozen? ⟨b,1,none⟩ = false
 f2:W.frozen? ⟨b,2,none⟩ = false
theorem Box3.step {A B:World} {b:Nat} {q:Pt} (h:Box3 A b q) (hb:Below A.heap.size A B):Box3 B b q:=
 ⟨c_after hb h.c0,c_after hb h.c1,c_after hb h.c2,f_after hb h.c0 h.f0,f_after hb h.c1 h.f1,f_after hb h.c2 h.f2⟩
theorem Box3.new (w:World) (x y z:Int) (t:TypeId):Box3 (w.alloc (.cells #[.int .i64 x,.int .i64 y,.int .i64 z] t)) w.heap.size ⟨x,y,z⟩:=
 ⟨by simp,by simp,by simp,by simp [go_sem],by simp [go_sem],by simp [go_sem]⟩
def set3 (W:World) (b:Nat) (x y z:Int):World:=((W.setCell ⟨b,0,none⟩ (.int .i64 x)).setCell ⟨b,1,none⟩ (.int .i64 y)).setCell ⟨b,2,none⟩ (.int .i64 z)
structure Lies (W:World) (v:Value) (L:List Pt):Prop where
 form:∃ o cap,v = .slice o L.length cap/\L.length <= cap/\cap <= 9223372036854775807/\∀ i,i < L.length->∃ g off,o = some ⟨g,off,none⟩/\W.cell? ⟨g,off + i * 3,none⟩ = some (.int .i64 (pt L i).x)/\W.cell? ⟨g,off + i * 3 + 1,none⟩ = some (.int .i64 (pt L i).y)/\W.cell? ⟨g,off + i * 3 + 2,none⟩ = some (.int .i64 (pt L i).z)
theorem Lies.of_row {W:World} {base:Nat} {v:Value} {L:List Pt} (h:W.ownsRow base 30 3 v L.length (fl3 L)):Lies W v L:=by
 refine ⟨?_⟩
 rcases h.2 with ⟨rfl,h0⟩ | ⟨g,cap,cur,rfl,hb,hg,h1,h2,h3,h4⟩
 ·exact ⟨none,0,by rw [h0],by omega,by omega,fun i hi=>by omega⟩
 ·refine ⟨_,cap,rfl,h1,by unfold maxLen at h2;omega,fun i hi=>⟨g,0,rfl,?_,?_,?_⟩⟩
  ·rw [Nat.zero_add];exact (h.cellAt (i * 3) (by omega)).trans (fl3_at L i hi).1
  ·rw [Nat.zero_add];exact (h.cellAt (i * 3 + 1) (by omega)).trans (fl3_at L i hi).2.1
  ·rw [Nat.zero_add];exact (h.cellAt (i * 3 + 2) (by omega)).trans (fl3_at L i hi).2.2
theorem Lies.below {w W:World} {v:Value} {L:List Pt} (h:Lies w v L) (hb:Below w.heap.size w W):Lies W v L:=by
 obtain ⟨o,cap,e,h1,h2,h3⟩:=h.form
 refine ⟨o,cap,e,h1,h2,fun i hi=>?_⟩
 obtain ⟨g,off,e,a,b,c⟩:=h3 i hi
 exact ⟨g,off,e,c_after hb a,c_after hb b,c_after hb c⟩
theorem Lies.cells {w:World} {v:Value} {L:List Pt} (h:Lies w v L):∃ o cap,v = .slice o L.length cap/\L.length <= cap/\cap <= 9223372036854775807/\(L = [] \/ ∃ g off,o = some ⟨g,off,none⟩/\∀ j u,(fl3 L)[j]? = some u->w.cell? ⟨g,off + j,none⟩ = some u):=by
 obtain ⟨o,cap,e,h1,h2,h3⟩:=h.form
 refine ⟨o,cap,e,h1,h2,?_⟩
 by_cases h0:L.length = 0
 ·exact Or.inl (List.length_eq_zero_iff.1 h0)
 ·right
  obtain ⟨g,off,rfl,_⟩:=h3 0 (by omega)
  refine ⟨g,off,rfl,fun j u hj=>?_⟩
  have hl:j < L.length * 3:=by rw [<- fl3_length];exact (List.getElem?_eq_some_iff.1 hj).1
  obtain ⟨a0,a1,a2⟩:=fl3_at L (j / 3) (by omega)
  obtain ⟨g',off',e',b0,b1,b2⟩:=h3 (j / 3) (by omega)
  simp only [Option.some.injEq,Addr.mk.injEq,and_true] at e'
  obtain ⟨rfl,rfl⟩:=e'
  have:j % 3 = 0 \/ j % 3 = 1 \/ j % 3 = 2:=by omega
  rcases this with e | e | e
  ·have ej:j / 3 * 3 = j:=by omega
   rw [ej] at a0 b0
   rw [a0] at hj
   rw [<- hj];exact b0
  ·have ej:j / 3 * 3 + 1 = j:=by omega
   rw [ej] at a1
   rw [show off + j / 3 * 3 + 1 = off + j by omega] at b1
   rw [a1] at hj
   rw [<- hj];exact b1
  ·have ej:j / 3 * 3 + 2 = j:=by omega
   rw [ej] at a2
   rw [show off + j / 3 * 3 + 2 = off + j by omega] at b2
   rw [a2] at hj
   rw [<- hj];exact b2
structure Row (w V:World) (u:Value) (M:List Pt):Prop where
 row:V.ownsRow w.heap.size 30 3 u M.length (fl3 M)
 below:Below w.heap.size w V
theorem Row.start (w:World):Row w w (.slice none 0 0) []:=⟨World.ownsRow_nil _ _ _ _,Below.refl _ _⟩
theorem below_grown {w W:World} (h:Below w.heap.size w W) (row:Option Nat):w.grownBy W row:=⟨h.os,h.tape,h.output,h.size,fun k hk _=>h.block k hk⟩
theorem own_below {A W:World} {base:Nat} {t:TypeId} {sz n:Nat} {u:Value} {xs:List Value} (h:A.ownsRow base t sz u n xs) (hb:Below A.heap.size A W):W.ownsRow base t sz u n xs:=by
 cases e:u.ownBlock with
 | none=>exact h.kept (below_grown hb none) (Or.inl e)
 | some k=>exact h.kept (below_grown hb none) (Or.inr (by rw [e];simp))
end
end Go.Proofs.YtpjaacpcdomfiaaGreat
