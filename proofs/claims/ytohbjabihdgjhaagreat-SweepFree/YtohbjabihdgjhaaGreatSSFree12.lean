/- Unit vectors, in plain numbers. -/
import Derived.Test.YtohbjabihdgjhaaGreatSSFree11
import Derived.Test.YtohbjabihdgjhaaGreatSSFree0
import Derived.Test.YtohbjabihdgjhaaGreatSSFree7
import Derived.Test.YtohbjabihdgjhaaGreatSSFree8
import Derived.Test.YtohbjabihdgjhaaGreatSSFree1
import Derived.Deep.RegionWith
set_option maxHeartbeats 1000000
set_option linter.unusedVariables false
namespace Go.Proofs.YtohbjabihdgjhaaGreat
section
open Go.RowKit Fx
theorem in_square {x n R:Int} (hR:0 <= R) (hn:0 <= n) (h:x * x + R < (n + 1) * (n + 1)):-n <= x/\x <= n:=by
 constructor
 ·apply Int.not_lt.1
  intro hlt
  have:=Int.mul_le_mul (show n + 1 <= -x by omega) (show n + 1 <= -x by omega) (by omega) (by omega)
  rw [Int.neg_mul_neg] at this
  omega
 ·apply Int.not_lt.1
  intro hlt
  have:=Int.mul_le_mul (show n + 1 <= x by omega) (show n + 1 <= x by omega) (by omega) (by omega)
  omega
theorem sq_nonneg (x:Int):0 <= x * x:=by
 rcases Int.le_total 0 x with g | g
 ·exact Int.mul_nonneg g g
 ·exact Int.mul_nonneg_of_nonpos_of_nonpos g g
end
section
open Go.RowKit Fx
def wholeBad (q0 q1 q2 q3:Int):Bool:=decide (((norm [q0,q1,q2,q3]).getD 0) < 2147483648) || ((ratio q0 4294967296 ((norm [q0,q1,q2,q3]).getD 0)).isNone || (ratio q1 4294967296 ((norm [q0,q1,q2,q3]).getD 0)).isNone || (ratio q2 4294967296 ((norm [q0,q1,q2,q3]).getD 0)).isNone || (ratio q3 4294967296 ((norm [q0,q1,q2,q3]).getD 0)).isNone)
end
section
open Go.RowKit Fx
namespace WM
theorem mul_in {a b A B:Int} (ha:-A <= a/\a <= A) (hb:-B <= b/\b <= B):-(A * B) <= a * b/\a * b <= A * B:=by
 have h1:=Int.mul_nonneg (show 0 <= A - a by omega) (show 0 <= B + b by omega)
 have h2:=Int.mul_nonneg (show 0 <= A + a by omega) (show 0 <= B - b by omega)
 have h3:=Int.mul_nonneg (show 0 <= A - a by omega) (show 0 <= B - b by omega)
 have h4:=Int.mul_nonneg (show 0 <= A + a by omega) (show 0 <= B + b by omega)
 simp only [Int.add_mul,Int.sub_mul,Int.mul_add,Int.mul_sub] at h1 h2 h3 h4
 omega
theorem norm4_some {x y z u s:Int} (h:norm [x,y,z,u] = some s):great x = false/\great y = false/\great z = false/\great u = false/\great s = false/\0 <= s/\s * s <= x * x + (y * y + (z * z + u * u))/\x * x + (y * y + (z * z + u * u)) < (s + 1) * (s + 1):=by
 unfold norm at h
 split at h
 ·simp at h
 ·split at h
  ·simp at h
  ·rename_i ha
   unfold Fx.told at h
   split at h
   ·simp at h
   ·rename_i hg
    have hg':great _ = false:=Bool.eq_false_iff.2 hg
    simp only [Option.some.injEq] at h
    rw [h] at hg'
    obtain ⟨p,q⟩:=isq_is (prods [x,y,z,u] [x,y,z,u]).toNat
    have h0:=prods_self [x,y,z,u]
    generalize hr:isq (prods [x,y,z,u] [x,y,z,u]).toNat = r at *
    have p':=Int.ofNat_le.2 p
    have q':=Int.ofNat_lt.2 q
    rw [Int.toNat_of_nonneg h0,Int.natCast_mul] at p' q'
    rw [Int.natCast_add] at q'
    simp only [prods,Int.add_zero] at p' q'
    simp only [List.any_cons,List.any_nil,Bool.or_false,Bool.not_eq_true,Bool.or_eq_false_iff] at ha
    subst h
    exact ⟨ha.1,ha.2.1,ha.2.2.1,ha.2.2.2,hg',by omega,p',q'⟩
theorem part4 {x n u t:Int} (hn:0 < n) (ht:-t <= x/\x <= t) (htn:t <= n) (hu:u = x * 4294967296 / n):-4294967296 <= u/\u <= 4294967296/\n * n * (u * u) <= 18446744073709551616 * (x * x) + 8589934592 * (t * n) + n * n/\18446744073709551616 * (x * x) <= n * n * (u * u) + 8589934592 * (t * n):=by
 have hd:=div_is (x * 4294967296) n (by omega)
 rw [<- hu] at hd
 obtain ⟨e,he⟩:∃ e,e = x * 4294967296 - u * n:=⟨_,rfl⟩
 have e0:0 <= e:=by omega
 have e1:e < n:=by have:=hd.2;rw [Int.add_mul] at this;omega
 have un:u * n = x * 4294967296 - e:=by omega
 have sq:n * n * (u * u) = 18446744073709551616 * (x * x) - 8589934592 * (x * e) + e * e:=by
  have:n * n * (u * u) = (u * n) * (u * n):=by grind
  rw [this,un];grind
 have b1:=mul_in (a:=x) (b:=e) (A:=t) (B:=n) ht (by omega)
 have b3:e * e <= n * n:=Int.mul_le_mul (by omega) (by omega) e0 (by omega)
 have b4:0 <= e * e:=Int.mul_nonneg e0 e0
 refine ⟨?_,?_,by omega,by omega⟩
 ·apply Int.not_lt.1
  intro hlt
  have:=Int.mul_le_mul_of_nonneg_right (show u + 1 <= -4294967296 by omega) (show 0 <= n by omega)
  have:=hd.2
  omega
 ·apply Int.not_lt.1
  intro hlt
  have:=Int.mul_le_mul_of_nonneg_right (show 4294967297 <= u by omega) (show 0 <= n by omega)
  have:=hd.1
  omega
theorem size_of (x:Int):∃ t:Int,0 <= t/\(-t <= x/\x <= t)/\t * t = x * x/\(t = x \/ t = -x):=by
 rcases Int.le_total 0 x with g | g
 ·exact ⟨x,g,⟨by omega,by omega⟩,rfl,Or.inl rfl⟩
 ·exact ⟨-x,by omega,⟨by omega,by omega⟩,by rw [Int.neg_mul_neg],Or.inr rfl⟩
theorem cauchy4 (a b c d:Int):(a + b + c + d) * (a + b + c + d) <= 4 * (a * a + (b * b + (c * c + d * d))):=by
 have h1:=sq_nonneg (a - b)
 have h2:=sq_nonneg (a - c)
 have h3:=sq_nonneg (a - d)
 have h4:=sq_nonneg (b - c)
 have h5:=sq_nonneg (b - d)
 have h6:=sq_nonneg (c - d)
 have e:4 * (a * a + (b * b + (c * c + d * d))) - (a + b + c + d) * (a + b + c + d) = (a - b) * (a - b) + (a - c) * (a - c) + (a - d) * (a - d) + (b - c) * (b - c) + (b - d) * (b - d) + (c - d) * (c - d):=by grind
 omega
theorem whole_long {x y z s n:Int} (h:norm [x,y,z,s] = some n) (hn:2147483648 <= n):∃ a b c d l,ratio x 4294967296 n = some a/\ratio y 4294967296 n = some b/\ratio z 4294967296 n = some c/\ratio s 4294967296 n = some d/\norm [a,b,c,d] = some l/\4294967292 <= l/\l <= 4294967300 /\
  (-4294967296 <= a/\a <= 4294967296)/\(-4294967296 <= b/\b <= 4294967296)/\(-4294967296 <= c/\c <= 4294967296)/\(-4294967296 <= d/\d <= 4294967296) /\
  -34359738376 <= a * a + (b * b + (c * c + d * d)) - 18446744073709551616/\a * a + (b * b + (c * c + d * d)) - 18446744073709551616 <= 34359738376:=by
 obtain ⟨gx,gy,gz,gs,gn,n0,h1,h2⟩:=norm4_some h
 have px:=sq_nonneg x
 have py:=sq_nonneg y
 have pz:=sq_nonneg z
 have ps:=sq_nonneg s
 have ix:=in_square (x:=x) (R:=y * y + (z * z + s * s)) (by omega) n0 (by omega)
 have iy:=in_square (x:=y) (R:=x * x + (z * z + s * s)) (by omega) n0 (by omega)
 have iz:=in_square (x:=z) (R:=x * x + (y * y + s * s)) (by omega) n0 (by omega)
 have is:=in_square (x:=s) (R:=x * x + (y * y + z * z)) (by omega) n0 (by omega)
 obtain ⟨tx,tx0,tx1,tx2,tx3⟩:=size_of x
 obtain ⟨ty,ty0,ty1,ty2,ty3⟩:=size_of y
 obtain ⟨tz,tz0,tz1,tz2,tz3⟩:=size_of z
 obtain ⟨ts,ts0,ts1,ts2,ts3⟩:=size_of s
 have hx9:tx <= n:=by clear ty3 tz3 ts3;omega
 have hy9:ty <= n:=by clear tx3 tz3 ts3;omega
 have hz9:tz <= n:=by clear tx3 ty3 ts3;omega
 have hs9:ts <= n:=by clear tx3 ty3 tz3;omega
 clear tx3 ty3 tz3 ts3
 have kx:=part4 (u:=x * 4294967296 / n) (by omega) tx1 hx9 rfl
 have ky:=part4 (u:=y * 4294967296 / n) (by omega) ty1 hy9 rfl
 have kz:=part4 (u:=z * 4294967296 / n) (by omega) tz1 hz9 rfl
 have ks:=part4 (u:=s * 4294967296 / n) (by omega) ts1 hs9 rfl
 have one:∀ t:Int,great t = false->-4294967296 <= t * 4294967296 / n/\t * 4294967296 / n <= 4294967296->ratio t 4294967296 n = some (t * 4294967296 / n):=by
  intro t gt hb
  have g1:great 4294967296 = false:=by decide
  have g2:great (t * 4294967296 / n) = false:=(not_great _).2 ⟨Int.le_trans (by omega) hb.1,Int.le_trans hb.2 (by omega)⟩
  unfold ratio fl
  rw [if_neg (by omega:¬ n = 0),gt,g1,gn,if_neg (by omega:¬ n < 0)]
  simp [Fx.told,g2]
 have r0:=one x gx ⟨kx.1,kx.2.1⟩
 have r1:=one y gy ⟨ky.1,ky.2.1⟩
 have r2:=one z gz ⟨kz.1,kz.2.1⟩
 have r3:=one s gs ⟨ks.1,ks.2.1⟩
 generalize x * 4294967296 / n = a at *
 generalize y * 4294967296 / n = b at *
 generalize z * 4294967296 / n = c at *
 generalize s * 4294967296 / n = d at *
 clear one
 have ga:great a = false:=(not_great _).2 (by omega)
 have gb:great b = false:=(not_great _).2 (by omega)
 have gc:great c = false:=(not_great _).2 (by omega)
 have gd:great d = false:=(not_great _).2 (by omega)
 obtain ⟨T,hT⟩:∃ T,T = tx + ty + tz + ts:=⟨_,rfl⟩
 have hc:=cauchy4 tx ty tz ts
 rw [<- hT,tx2,ty2,tz2,ts2] at hc
 have h3:(n + 1) * (n + 1) = n * n + 2 * n + 1:=by grind
 have hT1:T <= 2 * n + 1:=by
  apply Int.not_lt.1
  intro hlt
  have:=Int.mul_le_mul (show 2 * (n + 1) <= T by omega) (show 2 * (n + 1) <= T by omega) (by omega) (by omega)
  have e:2 * (n + 1) * (2 * (n + 1)) = 4 * ((n + 1) * (n + 1)):=by grind
  omega
 have hTn:T * n <= (2 * n + 1) * n:=Int.mul_le_mul_of_nonneg_right hT1 n0
 have hTn':T * n = tx * n + ty * n + tz * n + ts * n:=by rw [hT];grind
 have e1:(2 * n + 1) * n = 2 * (n * n) + n:=by grind
 have nn:2147483648 * n <= n * n:=Int.mul_le_mul_of_nonneg_right hn n0
 have np:0 < n * n:=Int.mul_pos (by omega) (by omega)
 obtain ⟨S,hS⟩:∃ S,S = a * a + (b * b + (c * c + d * d)):=⟨_,rfl⟩
 have pa:=sq_nonneg a
 have pb:=sq_nonneg b
 have pc:=sq_nonneg c
 have pd:=sq_nonneg d
 have S0:0 <= S:=by omega
 have hnS:n * n * S = n * n * (a * a) + (n * n * (b * b) + (n * n * (c * c) + n * n * (d * d))):=by rw [hS,Int.mul_add,Int.mul_add,Int.mul_add]
 rw [h3] at h2
 clear hc tx2 ty2 tz2 ts2
 have up:n * n * S <= n * n * 18446744108069289992:=by omega
 have lo:n * n * 18446744056529682428 <= n * n * S:=by omega
 have up':S <= 18446744108069289992:=Int.le_of_mul_le_mul_left up np
 have lo':18446744056529682428 <= S:=Int.le_of_mul_le_mul_left lo np
 have hpr:prods [a,b,c,d] [a,b,c,d] = S:=by simp only [prods,Int.add_zero,hS]
 obtain ⟨p,q⟩:=isq_is S.toNat
 obtain ⟨l,hl⟩:∃ l:Nat,l = isq S.toNat:=⟨_,rfl⟩
 rw [<- hl] at p q
 have p':=Int.ofNat_le.2 p
 have q':=Int.ofNat_lt.2 q
 rw [Int.toNat_of_nonneg S0,Int.natCast_mul] at p' q'
 rw [Int.natCast_add] at q'
 have l1:(4294967292:Int) <= l:=by
  apply Int.not_lt.1
  intro hlt
  have:=Int.mul_le_mul (show (l:Int) + ((1:Nat):Int) <= 4294967292 by omega) (show (l:Int) + ((1:Nat):Int) <= 4294967292 by omega) (by omega) (by omega)
  omega
 have l2:(l:Int) <= 4294967300:=by
  apply Int.not_lt.1
  intro hlt
  have:=Int.mul_le_mul (show (4294967301:Int) <= l by omega) (show (4294967301:Int) <= l by omega) (by omega) (by omega)
  omega
 refine ⟨a,b,c,d,l,r0,r1,r2,r3,?_,l1,l2,⟨kx.1,kx.2.1⟩,⟨ky.1,ky.2.1⟩,⟨kz.1,kz.2.1⟩,⟨ks.1,ks.2.1⟩,by omega,by omega⟩
 have gl:great (l:Int) = false:=(not_great _).2 (by omega)
 unfold norm
 rw [if_neg (by simp),hpr,<- hl]
 simp [ga,gb,gc,gd,Fx.told,gl]
theorem dot2 {a b c d:Int} (ha:-8589934592 <= a/\a <= 8589934592) (hb:-8589934592 <= b/\b <= 8589934592) (hc:-4294967296 <= c/\c <= 4294967296) (hd:-4294967296 <= d/\d <= 4294967296) :
  ∃ r:Int,dot [a,b] [c,d] = some r/\4294967296 * r <= a * c + b * d/\a * c + b * d < 4294967296 * r + 4294967296/\-17179869184 <= r/\r <= 17179869184:=by
 have k1:=mul_in ha hc
 have k2:=mul_in hb hd
 have hv:=div_is (a * c + b * d) 4294967296 (by omega)
 have e:prods [a,b] [c,d] / 4294967296 = (a * c + b * d) / 4294967296:=by simp only [prods,Int.add_zero]
 refine ⟨(a * c + b * d) / 4294967296,?_,by omega,by omega,by omega,by omega⟩
 have g1:[a,b].any great = false:=by simp [(not_great a).2 (by omega),(not_great b).2 (by omega)]
 have g2:[c,d].any great = false:=by simp [(not_great c).2 (by omega),(not_great d).2 (by omega)]
 have g3:great ((a * c + b * d) / 4294967296) = false:=(not_great _).2 (by omega)
 unfold dot
 rw [if_neg (by simp),if_neg (by simp),g1,g2,e]
 simp [Fx.told,g3]
theorem add2 {q:Int} (h:-4294967296 <= q/\q <= 4294967296):add q q = some (2 * q):=by
 unfold add
 rw [(not_great q).2 (by omega),show q + q = 2 * q by omega]
 simp [Fx.told,(not_great (2 * q)).2 (by omega)]
theorem sub0 {q:Int} (h:-4294967296 <= q/\q <= 4294967296):sub 0 q = some (-q):=by
 unfold sub
 rw [(not_great q).2 (by omega),show (0:Int) - q = -q by omega,(not_great 0).2 (by omega)]
 simp [Fx.told,(not_great (-q)).2 (by omega)]
theorem sub1 {q:Int} (h:-17179869184 <= q/\q <= 17179869184):sub 4294967296 q = some (4294967296 - q):=by
 unfold sub
 rw [(not_great q).2 (by omega),(not_great 4294967296).2 (by omega)]
 simp [Fx.told,(not_great (4294967296 - q)).2 (by omega)]
def Near (m R:Int):Prop:=(-4294967296 <= 4294967296 * m - R/\4294967296 * m - R <= 4294967296)/\(-36893488147419103232 <= R/\R <= 36893488147419103232)/\(-8589934592 <= m/\m <= 8589934592)
theorem near_off {r P:Int} (l:4294967296 * r <= P) (u:P < 4294967296 * r + 4294967296) (hP:-18446744108069289992 <= P/\P <= 18446744108069289992):Near r P:=by
 unfold Near
 omega
theorem near_dia {r P:Int} (l:4294967296 * r <= P) (u:P < 4294967296 * r + 4294967296) (hP:0 <= P/\P <= 36893488216138579984):Near (4294967296 - r) (18446744073709551616 - P):=by
 unfold Near
 omega
theorem two_le {a b:Int}:-(a * a + b * b) <= 2 * (a * b)/\2 * (a * b) <= a * a + b * b:=by
 have h3:=sq_nonneg (a + b)
 have h4:=sq_nonneg (a - b)
 have e3:(a + b) * (a + b) = a * a + b * b + 2 * (a * b):=by grind
 have e4:(a - b) * (a - b) = a * a + b * b - 2 * (a * b):=by grind
 omega
theorem off_le {a b c d M:Int} (h:a * a + b * b + (c * c + d * d) <= M):(-M <= 2 * (a * b) + 2 * (c * d)/\2 * (a * b) + 2 * (c * d) <= M)/\(-M <= 2 * (a * b) + 2 * (c * -d)/\2 * (a * b) + 2 * (c * -d) <= M):=by
 have h1:=two_le (a:=a) (b:=b)
 have h2:=two_le (a:=c) (b:=d)
 rw [Int.mul_neg]
 omega
theorem dia_le {a b c d M:Int} (h:a * a + b * b + (c * c + d * d) <= M):0 <= 2 * (a * a) + 2 * (b * b)/\2 * (a * a) + 2 * (b * b) <= 2 * M:=by
 have h1:=sq_nonneg a
 have h2:=sq_nonneg b
 have h3:=sq_nonneg c
 have h4:=sq_nonneg d
 omega
theorem neg_in {q:Int} (h:-4294967296 <= q/\q <= 4294967296):-4294967296 <= -q/\-q <= 4294967296:=by omega
theorem dbl_in {q:Int} (h:-4294967296 <= q/\q <= 4294967296):-8589934592 <= 2 * q/\2 * q <= 8589934592:=by omega
theorem rows_near {w x y z:Int} (hw:-4294967296 <= w/\w <= 4294967296) (hx:-4294967296 <= x/\x <= 4294967296) (hy:-4294967296 <= y/\y <= 4294967296) (hz:-4294967296 <= z/\z <= 4294967296)
  (h2:w * w + (x * x + (y * y + z * z)) - 18446744073709551616 <= 34359738376):rowsBad w x y z = false /\
  Near (rowsAt0 w x y z) (18446744073709551616 - (2 * (y * y) + 2 * (z * z)))/\Near (rowsAt1 w x y z) (2 * (x * y) + 2 * (w * -z))/\Near (rowsAt2 w x y z) (2 * (x * z) + 2 * (w * y)) /\
  Near (rowsAt3 w x y z) (2 * (x * y) + 2 * (w * z))/\Near (rowsAt4 w x y z) (18446744073709551616 - (2 * (x * x) + 2 * (z * z)))/\Near (rowsAt5 w x y z) (2 * (y * z) + 2 * (w * -x)) /\
  Near (rowsAt6 w x y z) (2 * (x * z) + 2 * (w * -y))/\Near (rowsAt7 w x y z) (2 * (y * z) + 2 * (w * x))/\Near (rowsAt8 w x y z) (18446744073709551616 - (2 * (x * x) + 2 * (y * y))):=by
 have B0:=dia_le (a:=y) (b:=z) (c:=w) (d:=x) (M:=18446744108069289992) (by omega)
 have B1:=off_le (a:=x) (b:=y) (c:=w) (d:=z) (M:=18446744108069289992) (by omega)
 have B2:=off_le (a:=x) (b:=z) (c:=w) (d:=y) (M:=18446744108069289992) (by omega)
 have B4:=dia_le (a:=x) (b:=z) (c:=w) (d:=y) (M:=18446744108069289992) (by omega)
 have B5:=off_le (a:=y) (b:=z) (c:=w) (d:=x) (M:=18446744108069289992) (by omega)
 have B8:=dia_le (a:=x) (b:=y) (c:=w) (d:=z) (M:=18446744108069289992) (by omega)
 obtain ⟨r0,d0,l0,u0,k0,j0⟩:=dot2 (dbl_in hy) (dbl_in hz) hy hz
 obtain ⟨r1,d1,l1,u1,k1,j1⟩:=dot2 (dbl_in hx) (dbl_in hw) hy (neg_in hz)
 obtain ⟨r2,d2,l2,u2,k2,j2⟩:=dot2 (dbl_in hx) (dbl_in hw) hz hy
 obtain ⟨r3,d3,l3,u3,k3,j3⟩:=dot2 (dbl_in hx) (dbl_in hw) hy hz
 obtain ⟨r4,d4,l4,u4,k4,j4⟩:=dot2 (dbl_in hx) (dbl_in hz) hx hz
 obtain ⟨r5,d5,l5,u5,k5,j5⟩:=dot2 (dbl_in hy) (dbl_in hw) hz (neg_in hx)
 obtain ⟨r6,d6,l6,u6,k6,j6⟩:=dot2 (dbl_in hx) (dbl_in hw) hz (neg_in hy)
 obtain ⟨r7,d7,l7,u7,k7,j7⟩:=dot2 (dbl_in hy) (dbl_in hw) hz hx
 obtain ⟨r8,d8,l8,u8,k8,j8⟩:=dot2 (dbl_in hx) (dbl_in hy) hx hy
 simp only [Int.mul_assoc] at l0 u0 l1 u1 l2 u2 l3 u3 l4 u4 l5 u5 l6 u6 l7 u7 l8 u8
 unfold rowsBad rowsAt0 rowsAt1 rowsAt2 rowsAt3 rowsAt4 rowsAt5 rowsAt6 rowsAt7 rowsAt8
 simp only [add2 hw,add2 hx,add2 hy,add2 hz,sub0 hw,sub0 hx,sub0 hy,sub0 hz,Option.getD_some,Option.isNone_some,d0,d1,d2,d3,d4,d5,d6,d7,d8,sub1 ⟨k0,j0⟩,sub1 ⟨k4,j4⟩,sub1 ⟨k8,j8⟩]
 exact ⟨by simp,near_dia l0 u0 B0,near_off l1 u1 B1.2,near_off l2 u2 B2.1,near_off l3 u3 B1.1,near_dia l4 u4 B4,near_off l5 u5 B5.2,near_off l6 u6 B2.2,near_off l7 u7 B5.1,near_dia l8 u8 B8⟩
end WM
end
section
open Go.RowKit Fx
namespace WM
def Whole (w x y z:Int):Prop:=(-4294967296 <= w/\w <= 4294967296)/\(-4294967296 <= x/\x <= 4294967296)/\(-4294967296 <= y/\y <= 4294967296)/\(-4294967296 <= z/\z <= 4294967296) /\
  -34359738376 <= w * w + (x * x + (y * y + z * z)) - 18446744073709551616/\w * w + (x * x + (y * y + z * z)) - 18446744073709551616 <= 34359738376
theorem dot3 {m0 m1 m2 a0 a1 a2 B:Int} (h0:-8589934592 <= m0/\m0 <= 8589934592) (h1:-8589934592 <= m1/\m1 <= 8589934592) (h2:-8589934592 <= m2/\m2 <= 8589934592)
  (k0:-B <= a0/\a0 <= B) (k1:-B <= a1/\a1 <= B) (k2:-B <= a2/\a2 <= B) (hB:B <= 1125899906842624) :
  ∃ r:Int,dot [m0,m1,m2] [a0,a1,a2] = some r/\(4294967296 * r <= m0 * a0 + (m1 * a1 + m2 * a2)/\m0 * a0 + (m1 * a1 + m2 * a2) < 4294967296 * r + 4294967296)/\(-(6 * B + 1) <= r/\r <= 6 * B + 1):=by
 have j0:=mul_in h0 k0
 have j1:=mul_in h1 k1
 have j2:=mul_in h2 k2
 have e:prods [m0,m1,m2] [a0,a1,a2] / 4294967296 = (m0 * a0 + (m1 * a1 + m2 * a2)) / 4294967296:=by simp only [prods,Int.add_zero]
 have g1:[m0,m1,m2].any great = false:=by simp [(not_great m0).2 (by omega),(not_great m1).2 (by omega),(not_great m2).2 (by omega)]
 have g2:[a0,a1,a2].any great = false:=by simp [(not_great a0).2 (by omega),(not_great a1).2 (by omega),(not_great a2).2 (by omega)]
 have hX:-(25769803776 * B) <= m0 * a0 + (m1 * a1 + m2 * a2)/\m0 * a0 + (m1 * a1 + m2 * a2) <= 25769803776 * B:=by omega
 generalize m0 * a0 + (m1 * a1 + m2 * a2) = X at *
 refine ⟨X / 4294967296,?_,by omega,by omega⟩
 have g3:great (X / 4294967296) = false:=(not_great _).2 (by omega)
 unfold dot
 rw [if_neg (by simp),if_neg (by simp),g1,g2,e]
 simp [Fx.told,g3]
end WM
end
section
open Go.RowKit Fx
structure M9.Fit (m:M9):Prop where
 h0:-8589934592 <= m.a0/\m.a0 <= 8589934592
 h1:-8589934592 <= m.a1/\m.a1 <= 8589934592
 h2:-8589934592 <= m.a2/\m.a2 <= 8589934592
 h3:-8589934592 <= m.a3/\m.a3 <= 8589934592
 h4:-8589934592 <= m.a4/\m.a4 <= 8589934592
 h5:-8589934592 <= m.a5/\m.a5 <= 8589934592
 h6:-8589934592 <= m.a6/\m.a6 <= 8589934592
 h7:-8589934592 <= m.a7/\m.a7 <= 8589934592
 h8:-8589934592 <= m.a8/\m.a8 <= 8589934592
theorem rows_fit {q:Q4} (h:WM.Whole q.w q.x q.y q.z):rowsB q = false/\(rowsM q).Fit:=by
 obtain ⟨hw,hx,hy,hz,hN1,hN2⟩:=id h
 obtain ⟨hbad,n0,n1,n2,n3,n4,n5,n6,n7,n8⟩:=WM.rows_near hw hx hy hz hN2
 refine ⟨hbad,?_⟩
 unfold rowsM rowsB
 rw [hbad]
 exact ⟨n0.2.2,n1.2.2,n2.2.2,n3.2.2,n4.2.2,n5.2.2,n6.2.2,n7.2.2,n8.2.2⟩
theorem turn_some {m:M9} (h:m.Fit) {x:Pt} {B:Int} (hx:x.inB B = true) (hB:B <= 1125899906842624):∃ r,m.turn x = some r/\r.inB (6 * B + 1) = true:=by
 obtain ⟨k0,k1,k2⟩:=(Pt.inB_iff _ _).1 hx
 obtain ⟨r0,e0,_,b0⟩:=WM.dot3 h.h0 h.h1 h.h2 k0 k1 k2 hB
 obtain ⟨r1,e1,_,b1⟩:=WM.dot3 h.h3 h.h4 h.h5 k0 k1 k2 hB
 obtain ⟨r2,e2,_,b2⟩:=WM.dot3 h.h6 h.h7 h.h8 k0 k1 k2 hB
 refine ⟨⟨r0,r1,r2⟩,?_,(Pt.inB_iff _ _).2 ⟨b0,b1,b2⟩⟩
 unfold M9.turn
 rw [e0,e1,e2];rfl
theorem times_in {p:Pt} {B n:Int} (h:p.inB B = true) (hn:0 <= n) (hb:B * n <= 9223372036854775807):p.times n = ⟨p.x * n,p.y * n,p.z * n⟩/\(p.times n).inB (B * n) = true:=by
 obtain ⟨k0,k1,k2⟩:=(Pt.inB_iff _ _).1 h
 have j0:=WM.mul_in k0 (show -n <= n/\n <= n by omega)
 have j1:=WM.mul_in k1 (show -n <= n/\n <= n by omega)
 have j2:=WM.mul_in k2 (show -n <= n/\n <= n by omega)
 have e:p.times n = ⟨p.x * n,p.y * n,p.z * n⟩:=by
  unfold Pt.times
  congr 1
  ·rw [IntKind.wrap_i64];omega
  ·rw [IntKind.wrap_i64];omega
  ·rw [IntKind.wrap_i64];omega
 rw [e]
 exact ⟨rfl,(Pt.inB_iff _ _).2 ⟨j0,j1,j2⟩⟩
theorem add_some {x y:Int} (h:-4611686018427387903 <= x + y/\x + y <= 4611686018427387903) (hx:-4611686018427387903 <= x/\x <= 4611686018427387903) (hy:-4611686018427387903 <= y/\y <= 4611686018427387903):add x y = some (x + y):=by
 unfold add
 simp [Fx.told,(not_great x).2 (by omega),(not_great y).2 (by omega),(not_great (x + y)).2 (by omega)]
theorem addO_some {x y:Pt} {A B:Int} (hx:x.inB A = true) (hy:y.inB B = true) (h:A + B <= 4611686018427387903) (hA:0 <= A) (hB:0 <= B):x.addO y = some ⟨x.x + y.x,x.y + y.y,x.z + y.z⟩:=by
 obtain ⟨k0,k1,k2⟩:=(Pt.inB_iff _ _).1 hx
 obtain ⟨j0,j1,j2⟩:=(Pt.inB_iff _ _).1 hy
 unfold Pt.addO
 rw [add_some (by omega) (by omega) (by omega),add_some (by omega) (by omega) (by omega),add_some (by omega) (by omega) (by omega)];rfl
theorem point_some {m:M9} (h:m.Fit) {t p:Pt} (ht:t.inB 5497558138880 = true) (hp:p.inB 65536 = true):∃ u:Pt,m.turn ⟨p.x * 1048576,p.y * 1048576,p.z * 1048576⟩ = some u/\u.inB 412316860417 = true/\m.ptB t p = false/\m.ptV t p = ⟨(u.x + t.x) / 1048576,(u.y + t.y) / 1048576,(u.z + t.z) / 1048576⟩/\(m.ptV t p).inB 8388608 = true:=by
 obtain ⟨e1,hb⟩:=times_in (n:=1048576) hp (by decide) (by decide)
 rw [e1] at hb
 obtain ⟨u,e2,hu⟩:=turn_some h hb (by decide)
 have hu:u.inB 412316860417 = true:=inB_mono hu (by decide)
 have e3:=addO_some hu ht (by decide) (by decide) (by decide)
 refine ⟨u,e2,hu,?_,?_⟩
 ·unfold M9.ptB M9.at1
  rw [e1,e2]
  simp [e3]
 ·have e4:m.ptV t p = ⟨(u.x + t.x) / 1048576,(u.y + t.y) / 1048576,(u.z + t.z) / 1048576⟩:=by
   unfold M9.ptV M9.at2 M9.at1
   rw [e1,e2]
   simp only [Option.getD_some,e3]
   rfl
  refine ⟨e4,?_⟩
  rw [e4]
  obtain ⟨k0,k1,k2⟩:=(Pt.inB_iff _ _).1 hu
  obtain ⟨j0,j1,j2⟩:=(Pt.inB_iff _ _).1 ht
  rw [Pt.inB_iff]
  dsimp only
  omega
theorem longF_is (n:Nat) (p:Pt) (h:p.inB 1048576 = true):(longF n p).inB 1048576 = true/\∃ j:Nat,longF n p = ⟨2 ^ j * p.x,2 ^ j * p.y,2 ^ j * p.z⟩:=by
 induction n generalizing p with
 | zero=>exact ⟨h,0,by simp [longF]⟩
 | succ n ih =>
  by_cases hq:p.inB 524288 = true
  ·have hI:=(Pt.inB_iff _ _).1 hq
   have e:p.plus p = ⟨2 * p.x,2 * p.y,2 * p.z⟩:=by
    unfold Pt.plus
    congr 1
    ·rw [IntKind.wrap_i64];omega
    ·rw [IntKind.wrap_i64];omega
    ·rw [IntKind.wrap_i64];omega
   obtain ⟨h1,j,h2⟩:=ih (p.plus p) (by rw [e,Pt.inB_iff];dsimp only;omega)
   have e9:longF (n + 1) p = longF n (p.plus p):=by simp [longF,hq]
   rw [e9]
   refine ⟨h1,j + 1,?_⟩
   rw [h2,e]
   simp only [Int.pow_succ,Int.mul_assoc]
  ·have e9:longF (n + 1) p = p:=by simp [longF,hq]
   rw [e9]
   exact ⟨h,0,by simp⟩
theorem long_is (p:Pt) (h:p.inB 1048576 = true):p.long.inB 1048576 = true/\∃ j:Nat,p.long = ⟨2 ^ j * p.x,2 ^ j * p.y,2 ^ j * p.z⟩:=by
 unfold Pt.long
 split
 ·exact ⟨h,0,by simp⟩
 ·exact longF_is 20 p h
theorem dir_some {m:M9} (h:m.Fit) {p:Pt} (hp:p.inB 1048576 = true):m.dirB p = false:=by
 obtain ⟨e1,hb⟩:=times_in (n:=4096) (long_is p hp).1 (by decide) (by decide)
 obtain ⟨u,e2,hu⟩:=turn_some h hb (by decide)
 unfold M9.dirB
 rw [e2];rfl
theorem all_win {L:List Pt} {m n:Int} (h:∀ p ∈ L,p.inB m = true) (hm:m <= n) (h1:0 <= n) (h2:n <= 9223372036854775807):(L.all fun p=>p.win n) = true:=by
 rw [List.all_eq_true]
 intro p hp
 rw [win_in _ _ h1 h2]
 exact inB_mono (h p hp) hm
theorem place_ok {t:Pt} {q:Q4} {P A E:List Pt} (hq:WM.Whole q.w q.x q.y q.z) (ht:t.inB 5497558138880 = true) (h0:0 < P.length) (hP:∀ p ∈ P,p.inB 65536 = true) (hA:∀ p ∈ A,p.inB 1048576 = true) (hE:∀ p ∈ E,p.inB 1048576 = true):placeOk t q P A E = true:=by
 obtain ⟨hb,hf⟩:=rows_fit hq
 have b1:P.any ((rowsM q).ptB t) = false:=by
  rw [List.any_eq_false]
  intro p hp
  obtain ⟨_,_,_,e,_⟩:=point_some hf ht (hP p hp)
  simp [e]
 have b2:A.any (rowsM q).dirB = false:=by
  rw [List.any_eq_false]
  intro p hp
  simp [dir_some hf (hA p hp)]
 have b3:E.any (rowsM q).dirB = false:=by
  rw [List.any_eq_false]
  intro p hp
  simp [dir_some hf (hE p hp)]
 have n1:nearP (P.map ((rowsM q).ptV t)) = true:=by
  refine all_win (m:=8388608) (fun p hp=>?_) (Int.le_refl _) (by decide) (by decide)
  obtain ⟨x,hx,rfl⟩:=List.mem_map.1 hp
  obtain ⟨_,_,_,_,_,e⟩:=point_some hf ht (hP x hx)
  exact e
 unfold placeOk placeableP badP
 rw [all_win hP (by decide) (by decide) (by decide),all_win hA (by decide) (by decide) (by decide),all_win hE (by decide) (by decide) (by decide),hb,b1,b2,b3,n1,decide_eq_true h0]
 rfl
end
section
open Go.RowKit Fx
def sgn (b:Bool) (x:Int):Int:=cond b (-x) x
structure M9.Dg (m:M9) (b0 b1 b2:Bool):Prop where
 h0:m.a0 = sgn b0 4294967296
 h1:m.a1 = 0
 h2:m.a2 = 0
 h3:m.a3 = 0
 h4:m.a4 = sgn b1 4294967296
 h5:m.a5 = 0
 h6:m.a6 = 0
 h7:m.a7 = 0
 h8:m.a8 = sgn b2 4294967296
theorem short_g {p:Pt} (h0:p ≠ Pt.O) (h:p.short = p):p.g = 1/\p.inB 1048576 = true:=by
 refine ⟨?_,h ▸ short_in p⟩
 rw [<- h]
 unfold Pt.short
 split
 ·exact low_g (halveF_ne _ _ (low_ne h0))
 ·rename_i hb
  exfalso
  apply h0
  rw [<- h]
  unfold Pt.short
  rw [if_neg hb]
end
section
open Go.RowKit Go.Shelf
structure TLD (k:Nat) (A:List Pt):Prop where
 one:∀ p ∈ A,p ≠ Pt.O/\p.short = p
 two:A.Pairwise fun p q=>p ≠ q/\(k = 1->p ≠ q.neg)
theorem gd_axes {s:Sh} (h:Good s):TLD 0 (axesP s):=by
 unfold axesP
 by_cases k3:s.kind = 3
 ·rw [if_pos k3];exact ⟨by decide,by decide⟩
 ·rw [if_neg k3]
  by_cases k4:s.kind = 4
  ·rw [if_pos k4]
   have hf:formP s = true:=by
    cases hf:formP s with
    | true=>rfl
    | false=>have:=h.ok;unfold checkP at this;rw [hf] at this;simp at this
   obtain ⟨_,_,m3,m4⟩:=may_parts (form_hull hf k4)
   have t:=sides_tidy m3 m4
   exact ⟨t.a0,t.a1.imp fun h=>⟨h,fun e=>by omega⟩⟩
  ·rw [if_neg k4];exact ⟨by simp,List.Pairwise.nil⟩
theorem gd_edges {s:Sh} (h:Good s):TLD 1 (edgesP s):=by
 unfold edgesP
 by_cases k2:s.kind = 2
 ·rw [if_pos k2];exact ⟨by decide,by decide⟩
 rw [if_neg k2]
 by_cases k3:s.kind = 3
 ·rw [if_pos k3];exact ⟨by decide,by decide⟩
 ·rw [if_neg k3]
  by_cases k4:s.kind = 4
  ·rw [if_pos k4]
   have hf:formP s = true:=by
    cases hf:formP s with
    | true=>rfl
    | false=>have:=h.ok;unfold checkP at this;rw [hf] at this;simp at this
   obtain ⟨_,_,m3,m4⟩:=may_parts (form_hull hf k4)
   have t:=sides_tidy m3 m4
   exact ⟨t.e0,t.e1.imp fun h=>⟨h.1,fun _=>h.2⟩⟩
  ·rw [if_neg k4];exact ⟨by simp,List.Pairwise.nil⟩
theorem gd_pts {s:Sh} (h:Good s):0 < (ptsP s).length:=by
 unfold ptsP
 by_cases k1:s.kind = 1
 ·rw [if_pos k1];decide
 rw [if_neg k1]
 by_cases k2:s.kind = 2
 ·rw [if_pos k2];simp
 rw [if_neg k2]
 by_cases k3:s.kind = 3
 ·rw [if_pos k3];simp [cornersP]
 ·rw [if_neg k3]
  have k4:s.kind = 4:=by have:=h.k;omega
  have hf:formP s = true:=by
   cases hf:formP s with
   | true=>rfl
   | false=>have:=h.ok;unfold checkP at this;rw [hf] at this;simp at this
  obtain ⟨m1,_⟩:=may_parts (form_hull hf k4)
  omega
theorem gd_in {s:Sh} (h:Good s):∀ p ∈ ptsP s,p.inB 65536 = true:=by
 have hx:=h.hx
 have hy:=h.hy
 have hz:=h.hz
 unfold ptsP
 by_cases k1:s.kind = 1
 ·rw [if_pos k1];decide
 rw [if_neg k1]
 by_cases k2:s.kind = 2
 ·rw [if_pos k2]
  intro p hp
  simp only [List.mem_cons,List.not_mem_nil,or_false] at hp
  rcases hp with rfl | rfl <;> (rw [Pt.inB_iff];dsimp only;omega)
 rw [if_neg k2]
 by_cases k3:s.kind = 3
 ·rw [if_pos k3]
  intro p hp
  simp only [cornersP,List.mem_cons,List.not_mem_nil,or_false] at hp
  rcases hp with rfl | rfl | rfl | rfl | rfl | rfl | rfl | rfl <;> (rw [Pt.inB_iff];dsimp only;omega)
 ·rw [if_neg k3]
  have k4:s.kind = 4:=by have:=h.k;omega
  have hf:formP s = true:=by
   cases hf:formP s with
   | true=>rfl
   | false=>have:=h.ok;unfold checkP at this;rw [hf] at this;simp at this
  obtain ⟨_,_,m3,_⟩:=may_parts (form_hull hf k4)
  exact m3
theorem tri_len (L:List Pt) (a b c:Pt) (s:List Pt × List Pt):(triP L a b c s).1.length <= s.1.length + 1/\(triP L a b c s).2.length <= s.2.length + 3:=by
 have hE:∀ (E:List Pt) (e:Pt),(withEdgeP E e).length <= E.length + 1:=fun E e=>by unfold withEdgeP;split <;> simp
 unfold triP
 dsimp only
 split
 ·omega
 ·refine ⟨?_,?_⟩
  ·have hA:∀ (A:List Pt) (e:Pt),(withAxisP A e).length <= A.length + 1:=fun A e=>by unfold withAxisP;split <;> simp
   exact hA _ _
  ·unfold withEdgesP
   simp only [List.foldl_cons,List.foldl_nil]
   have h1:=hE s.2 (b.sub a)
   have h2:=hE (withEdgeP s.2 (b.sub a)) (c.sub a)
   have h3:=hE (withEdgeP (withEdgeP s.2 (b.sub a)) (c.sub a)) (c.sub b)
   omega
theorem inner_len (L:List Pt) (a b:Pt):∀ (M:List Pt) (s:List Pt × List Pt),(innerP L a b M s).1.length <= s.1.length + M.length/\(innerP L a b M s).2.length <= s.2.length + 3 * M.length
 | [],s=>by simp [innerP]
 | c :: r,s=>by
  have h1:=inner_len L a b r (triP L a b c s)
  have h2:=tri_len L a b c s
  simp only [innerP,List.length_cons]
  omega
theorem mid_len (L:List Pt) (a:Pt):∀ (M:List Pt) (s:List Pt × List Pt),(midP L a M s).1.length <= s.1.length + M.length * M.length/\(midP L a M s).2.length <= s.2.length + 3 * (M.length * M.length)
 | [],s=>by simp [midP]
 | c :: r,s=>by
  have h1:=mid_len L a r (innerP L a c r s)
  have h2:=inner_len L a c r s
  simp only [midP,List.length_cons]
  have e:(r.length + 1) * (r.length + 1) = r.length * r.length + (r.length + r.length + 1):=by simp only [Nat.add_mul,Nat.mul_add,Nat.one_mul,Nat.mul_one];omega
  rw [e]
  generalize r.length * r.length = q at *
  omega
theorem outer_len (L:List Pt):∀ (M:List Pt) (s:List Pt × List Pt),M.length <= 12->(outerP L M s).1.length <= s.1.length + 144 * M.length/\(outerP L M s).2.length <= s.2.length + 432 * M.length
 | [],s,_=>by simp [outerP]
 | a :: r,s,h=>by
  simp only [List.length_cons] at h
  have h1:=outer_len L r (midP L a r s) (by omega)
  have h2:=mid_len L a r s
  have h3:r.length * r.length <= 12 * 12:=Nat.mul_le_mul (by omega) (by omega)
  simp only [outerP,List.length_cons]
  generalize r.length * r.length = q at *
  omega
theorem gd_alen {s:Sh} (h:Good s):(axesP s).length < 1099511627776/\(edgesP s).length < 1099511627776:=by
 have hs:s.kind = 4->(sidesP s.pts).1.length <= 1728/\(sidesP s.pts).2.length <= 5184:=fun k4=>by
  have hf:formP s = true:=by
   cases hf:formP s with
   | true=>rfl
   | false=>have:=h.ok;unfold checkP at this;rw [hf] at this;simp at this
  obtain ⟨_,m2,_⟩:=may_parts (form_hull hf k4)
  have h9:=outer_len s.pts s.pts ([],[]) (by omega)
  unfold sidesP
  simp only [List.length_nil,Nat.zero_add] at h9
  omega
 unfold axesP edgesP
 constructor
 ·split
  ·decide
  ·split
   ·have:=hs (by assumption);omega
   ·decide
 ·split
  ·decide
  ·split
   ·decide
   ·split
    ·have:=hs (by assumption);omega
    ·decide
theorem gd_len {s:Sh} (h:Good s):(ptsP s).length <= 12:=by
 unfold ptsP
 by_cases k1:s.kind = 1
 ·rw [if_pos k1];decide
 rw [if_neg k1]
 by_cases k2:s.kind = 2
 ·rw [if_pos k2];simp
 rw [if_neg k2]
 by_cases k3:s.kind = 3
 ·rw [if_pos k3];simp [cornersP]
 ·rw [if_neg k3]
  have k4:s.kind = 4:=by have:=h.k;omega
  have hf:formP s = true:=by
   cases hf:formP s with
   | true=>rfl
   | false=>have:=h.ok;unfold checkP at this;rw [hf] at this;simp at this
  obtain ⟨_,m2,_⟩:=may_parts (form_hull hf k4)
  omega
end
section
namespace Ref
def val (d:Nat->Int):Nat->Int
 | 0=>0
 | n + 1=>val d n + d n * 16777216 ^ n
def Digs (d:Nat->Int):Prop:=∀ j,j < 8->0 <= d j/\d j < 16777216
def put (d:Nat->Int) (k:Nat) (v:Int):Nat->Int:=fun j=>if j = k then v else d j
theorem put_same (d:Nat->Int) (k:Nat) (v:Int):put d k v k = v:=by simp [put]
theorem put_other (d:Nat->Int) {k j:Nat} (v:Int) (h:j ≠ k):put d k v j = d j:=by simp [put,h]
theorem pos (n:Nat):(0:Int) < 16777216 ^ n:=Int.pow_pos (by omega)
theorem val_ext {d e:Nat->Int}:∀ n,(∀ j,j < n->d j = e j)->val d n = val e n
 | 0,_=>rfl
 | n + 1,h=>by
  simp only [val]
  rw [val_ext n (fun j hj=>h j (by omega)),h n (by omega)]
theorem val_put_ge (d:Nat->Int) (k:Nat) (v:Int) (n:Nat) (h:n <= k):val (put d k v) n = val d n:=
 val_ext n fun j hj=>put_other d v (by omega)
theorem val_put (d:Nat->Int) (k:Nat) (v:Int):∀ n,k < n->val (put d k v) n = val d n + (v - d k) * 16777216 ^ k
 | 0,h=>by omega
 | n + 1,h=>by
  simp only [val]
  by_cases e:k = n
  ·subst e
   rw [val_put_ge d k v k (Nat.le_refl _),put_same,Int.sub_mul];omega
  ·rw [val_put d k v n (by omega),put_other d v (by omega:n ≠ k)];omega
theorem val_nonneg {d:Nat->Int}:∀ n,(∀ j,j < n->0 <= d j)->0 <= val d n
 | 0,_=>by simp [val]
 | n + 1,h=>by
  have a:=val_nonneg n (fun j hj=>h j (by omega))
  have b:=Int.mul_nonneg (h n (by omega)) (Int.le_of_lt (pos n))
  simp only [val];omega
theorem val_lt {d:Nat->Int}:∀ n,(∀ j,j < n->0 <= d j/\d j < 16777216)->val d n < 16777216 ^ n
 | 0,_=>by simp [val]
 | n + 1,h=>by
  have a:=val_lt n (fun j hj=>h j (by omega))
  have b:=Int.mul_le_mul_of_nonneg_right (by have:=h n (by omega);omega:d n <= 16777215) (Int.le_of_lt (pos n))
  simp only [val,Int.pow_succ];omega
theorem Digs.nonneg {d:Nat->Int} (h:Digs d):0 <= val d 8:=val_nonneg 8 fun j hj=>(h j hj).1
theorem Digs.lt {d:Nat->Int} (h:Digs d):val d 8 < 6277101735386680763835789423207666416102355444464034512896:=by
 have:=val_lt 8 h;simpa using this
theorem Digs.put {d:Nat->Int} (h:Digs d) (k:Nat) {v:Int} (hv:0 <= v/\v < 16777216):Digs (put d k v):=by
 intro j hj
 by_cases e:j = k
 ·subst e;rw [put_same];exact hv
 ·rw [put_other d v e];exact h j hj
theorem val_less {a b:Nat->Int} (i:Nat) (ha:∀ j,j < i->0 <= a j/\a j < 16777216) (hb:∀ j,j < i->0 <= b j) (h:a i < b i):∀ n,i < n->(∀ j,i < j->j < n->a j = b j)->val a n < val b n
 | 0,hn,_=>by omega
 | n + 1,hn,he=>by
  simp only [val]
  by_cases e:i = n
  ·subst e
   have h1:=val_lt i ha
   have h2:=val_nonneg i hb
   have h3:=Int.mul_le_mul_of_nonneg_right (by omega:a i + 1 <= b i) (Int.le_of_lt (pos i))
   rw [Int.add_mul] at h3;omega
  ·have:=val_less i ha hb h n (by omega) (fun j h1 h2=>he j h1 (by omega))
   rw [he n (by omega) (by omega)];omega
theorem add_step {V A B c x y P:Int} (h:V + c * P = A + B):V + (x + y + c) % 16777216 * P + (x + y + c) / 16777216 * (P * 16777216) = A + x * P + (B + y * P):=by
 have e:=Int.emod_add_mul_ediv (x + y + c) 16777216
 obtain ⟨r,hr⟩:∃ r,r = (x + y + c) % 16777216:=⟨_,rfl⟩
 obtain ⟨q,hq⟩:∃ q,q = (x + y + c) / 16777216:=⟨_,rfl⟩
 rw [<- hr,<- hq] at e ⊢
 have:(r + 16777216 * q) * P = (x + y + c) * P:=by rw [e]
 grind
theorem mul_step {V c o x y P R:Int} (h:V + c * P = R):V + ((o + x * y + c) % 16777216 - o) * P + (o + x * y + c) / 16777216 * (P * 16777216) = R + x * y * P:=by
 have e:=Int.emod_add_mul_ediv (o + x * y + c) 16777216
 obtain ⟨r,hr⟩:∃ r,r = (o + x * y + c) % 16777216:=⟨_,rfl⟩
 obtain ⟨q,hq⟩:∃ q,q = (o + x * y + c) / 16777216:=⟨_,rfl⟩
 rw [<- hr,<- hq] at e ⊢
 have:(r + 16777216 * q) * P = (o + x * y + c) * P:=by rw [e]
 grind
def dig (u:Int) (j:Nat):Int:=u / 16777216 ^ j % 16777216
theorem dig_step (u:Int) (k:Nat):u / 16777216 ^ k / 16777216 = u / 16777216 ^ (k + 1):=by
 rw [Int.pow_succ,Int.ediv_ediv_of_nonneg (Int.le_of_lt (pos k))]
theorem val_dig (u:Int):∀ n,val (dig u) n = u % 16777216 ^ n
 | 0=>by simp [val,Int.emod_one]
 | n + 1=>by
  simp only [val,val_dig u n,dig]
  rw [Int.pow_succ]
  have h1:=Int.emod_add_mul_ediv u (16777216 ^ n)
  have h2:=Int.emod_add_mul_ediv (u / 16777216 ^ n) 16777216
  have hp:=pos n
  have b1:=Int.emod_nonneg u (by omega:(16777216:Int) ^ n ≠ 0)
  have b2:=Int.emod_lt_of_pos u hp
  have b3:=Int.emod_nonneg (u / 16777216 ^ n) (by omega:(16777216:Int) ≠ 0)
  have b4:=Int.emod_lt_of_pos (u / 16777216 ^ n) (by omega:(0:Int) < 16777216)
  generalize (16777216:Int) ^ n = P at *
  generalize u % P = r at *
  generalize u / P = q at *
  generalize q % 16777216 = s at *
  generalize q / 16777216 = t at *
  have hs:s * P <= 16777215 * P:=Int.mul_le_mul_of_nonneg_right (by omega) (by omega)
  have hs0:0 <= s * P:=Int.mul_nonneg b3 (by omega)
  have e:u = (P * 16777216) * t + (r + s * P):=by rw [<- h1,<- h2];grind
  rw [e,Int.mul_add_emod_self_left,Int.emod_eq_of_lt (by omega) (by omega)]
def sv (s:Bool) (d:Nat->Int):Int:=if s then -val d 8 else val d 8
end Ref
end
section
open Go.RowKit Ref
@[reducible] def wv (s:Bool) (d:Nat->Int):Value:=.agg #[.bool s,.int .i64 (d 0),.int .i64 (d 1),.int .i64 (d 2),.int .i64 (d 3),.int .i64 (d 4),.int .i64 (d 5),.int .i64 (d 6),.int .i64 (d 7)]
structure RLies (w:World) (b:Nat) (s:Bool) (d:Nat->Int):Prop where
 neg:w.cell? ⟨b,0,none⟩ = some (.bool s)
 dig:∀ k,k < 8->w.cell? ⟨b,1 + k,none⟩ = some (.int .i64 (d k))
 free:∀ k,k < 9->w.frozen? ⟨b,k,none⟩ = false
theorem RLies.lt {w:World} {b:Nat} {s:Bool} {d:Nat->Int} (h:RLies w b s d):b < w.heap.size:=World.block_lt_of_cell? _ _ h.neg
theorem lies_new (w:World) (s:Bool) (d:Nat->Int) (t:TypeId) :
  RLies (w.alloc (.cells #[.bool s,.int .i64 (d 0),.int .i64 (d 1),.int .i64 (d 2),.int .i64 (d 3),.int .i64 (d 4),.int .i64 (d 5),.int .i64 (d 6),.int .i64 (d 7)] t)) w.heap.size s d:=by
 refine ⟨by simp,fun k hk=>?_,fun k hk=>by simp⟩
 match k,hk with
 | 0,_=>simp
 | 1,_=>simp
 | 2,_=>simp
 | 3,_=>simp
 | 4,_=>simp
 | 5,_=>simp
 | 6,_=>simp
 | 7,_=>simp
theorem RLies.below {w w':World} {b B:Nat} {s:Bool} {d:Nat->Int} (h:RLies w b s d) (hb:Below B w w') (hB:b < B):RLies w' b s d:=
 ⟨(hb.cell hB).trans h.neg,fun k hk=>(hb.cell hB).trans (h.dig k hk),fun k hk=>(hb.frozen hB).trans (h.free k hk)⟩
theorem RLies.alloc {w:World} {b:Nat} {s:Bool} {d:Nat->Int} (h:RLies w b s d) (o:Obj):RLies (w.alloc o) b s d:=
 h.below (new_after w o) h.lt
theorem RLies.other {w:World} {b:Nat} {s:Bool} {d:Nat->Int} (h:RLies w b s d) {a:Addr} (hne:b ≠ a.block) (v:Value):RLies (w.setCell a v) b s d:=
 ⟨(World.cell?_of_block (w:=w) (Below.heap_setCell _ _ _ _ hne)).trans h.neg,fun k hk=>(World.cell?_of_block (w:=w) (Below.heap_setCell _ _ _ _ hne)).trans (h.dig k hk),
  fun k hk=>(World.frozen?_of_block (w:=w) (Below.heap_setCell _ _ _ _ hne)).trans (h.free k hk)⟩
theorem RLies.put {w:World} {b:Nat} {s:Bool} {d:Nat->Int} (h:RLies w b s d) {k:Nat} (hk:k < 8) (v:Int):RLies (w.setCell ⟨b,1 + k,none⟩ (.int .i64 v)) b s (put d k v):=by
 have hd:=h.dig k hk
 refine ⟨?_,fun j hj=>?_,fun j hj=>?_⟩
 ·rw [<- h.neg];simp [go_sem]
 ·have hj':=h.dig j hj
  by_cases e:j = k
  ·subst e;simp [go_sem,hd,put_same]
  ·rw [put_other d v e,<- hj'];simp [go_sem]
 ·rw [<- h.free j hj];simp [go_sem]
theorem RLies.drew {w:World} {b:Nat} {s:Bool} {d:Nat->Int} (h:RLies w b s d):RLies w.drew b s d:=⟨h.neg,h.dig,h.free⟩
theorem RLies.cells {w:World} {b:Nat} {s:Bool} {d:Nat->Int} (h:RLies w b s d):w.cell? ⟨b,0,none⟩ = some (.bool s)/\w.cell? ⟨b,1,none⟩ = some (.int .i64 (d 0))/\w.cell? ⟨b,2,none⟩ = some (.int .i64 (d 1))/\w.cell? ⟨b,3,none⟩ = some (.int .i64 (d 2))/\w.cell? ⟨b,4,none⟩ = some (.int .i64 (d 3))/\w.cell? ⟨b,5,none⟩ = some (.int .i64 (d 4))/\w.cell? ⟨b,6,none⟩ = some (.int .i64 (d 5))/\w.cell? ⟨b,7,none⟩ = some (.int .i64 (d 6))/\w.cell? ⟨b,8,none⟩ = some (.int .i64 (d 7)):=
 ⟨h.neg,h.dig 0 (by omega),h.dig 1 (by omega),h.dig 2 (by omega),h.dig 3 (by omega),h.dig 4 (by omega),h.dig 5 (by omega),h.dig 6 (by omega),h.dig 7 (by omega)⟩
theorem RLies.frees {w:World} {b:Nat} {s:Bool} {d:Nat->Int} (h:RLies w b s d):w.frozen? ⟨b,0,none⟩ = false/\w.frozen? ⟨b,1,none⟩ = false/\w.frozen? ⟨b,2,none⟩ = false/\w.frozen? ⟨b,3,none⟩ = false/\w.frozen? ⟨b,4,none⟩ = false/\w.frozen? ⟨b,5,none⟩ = false/\w.frozen? ⟨b,6,none⟩ = false/\w.frozen? ⟨b,7,none⟩ = false/\w.frozen? ⟨b,8,none⟩ = false:=
 ⟨h.free 0 (by omega),h.free 1 (by omega),h.free 2 (by omega),h.free 3 (by omega),h.free 4 (by omega),h.free 5 (by omega),h.free 6 (by omega),h.free 7 (by omega),h.free 8 (by omega)⟩
theorem below_nine {w W:World} {b:Nat} {v0 v1 v2 v3 v4 v5 v6 v7 v8:Value} (h:Below w.heap.size w W) (hb:w.heap.size <= b) :
  Below w.heap.size w (((((((((W.setCell ⟨b,0,none⟩ v0).setCell ⟨b,1,none⟩ v1).setCell ⟨b,2,none⟩ v2).setCell ⟨b,3,none⟩ v3).setCell ⟨b,4,none⟩ v4).setCell ⟨b,5,none⟩ v5).setCell ⟨b,6,none⟩ v6).setCell ⟨b,7,none⟩ v7).setCell ⟨b,8,none⟩ v8):=
 ((((((((h.setCell hb _).setCell hb _).setCell hb _).setCell hb _).setCell hb _).setCell hb _).setCell hb _).setCell hb _).setCell hb _
theorem of_end {n U:Int} {s:Bool} (h1:-9223372036854775808 <= n) (h2:n < 9223372036854775808) (hs:s = decide (n < 0)) (hU:U = n.natAbs) (d:Nat->Int) (hd:∀ j,j < 8->d j = dig U j):Digs d/\sv s d = n:=by
 refine ⟨fun j hj=>?_,?_⟩
 ·rw [hd j hj];exact ⟨Int.emod_nonneg _ (by omega),Int.emod_lt_of_pos _ (by omega)⟩
 ·have h:=val_ext (e:=dig U) 8 hd
  rw [val_dig] at h
  unfold sv
  rw [h,hs,hU]
  by_cases g:n < 0
  ·simp [g];omega
  ·simp [g];omega
theorem of_any (n:Int) (w:World) (h1:-9223372036854775808 <= n) (h2:n < 9223372036854775808) :
  Calls Tryz.prog 120 #[.int .i64 n] w fun e w'=>∃ s d,e = .returned (wv s d)/\Hid (Digs d/\sv s d = n)/\Hid (Below w.heap.size w w'):=by
 obtain ⟨s,hs⟩:∃ s,s = decide (n < 0):=⟨_,rfl⟩
 obtain ⟨U,hU⟩:∃ U:Int,U = n.natAbs:=⟨_,rfl⟩
 have HE:Hid (∀ d,(∀ j,j < 8->d j = dig U j)->Digs d/\sv s d = n):=of_end h1 h2 hs hU
 by_cases hn:n < 0
 ·obtain rfl:s = true:=by rw [hs];simp [hn]
  clear hs
  obtain rfl:n = -U:=by omega
  clear hU
  go_enter Tryz.func120,Tryz.ntmps120
  go_wp2
  go_loopw [4,5] (fun u i wr=>∃ (k:Nat) (d:Nat->Int),k <= 8/\i = .int .i64 k/\u = .int .u64 (U / 16777216 ^ k)/\Hid (∀ j,j < k->d j = dig U j)/\Hid (RLies wr (w.heap.size + 1) true d)/\Hid (RLies wr w.heap.size false (fun _=>0))/\Hid (Below w.heap.size w wr)) (fun _ i _=>8 - (intOf i).toNat)
  case atStart=>exact ⟨0,fun _=>0,Nat.zero_le _,rfl,by simp [IntKind.wrap,IntKind.bits,IntKind.signed];omega,fun j hj=>by omega,by show RLies _ _ _ _;have:=lies_new (w.alloc (.cells #[.bool false,.int .i64 0,.int .i64 0,.int .i64 0,.int .i64 0,.int .i64 0,.int .i64 0,.int .i64 0,.int .i64 0] 133)) true (fun _=>0) 133;simpa only [World.size_alloc] using this,RLies.alloc (lies_new w false (fun _=>0) 133) _,(new_after w _).alloc (by simp) _⟩
  case round =>
   obtain ⟨k,d,hk,rfl,rfl,HD,HL,HR,HB⟩:=hrel
   by_cases hlt:k < 8
   ·have hcell:=HL.out.dig k hlt
    have hfree:=HL.out.free (1 + k) (by omega)
    have i0:(0:Int) <= (k:Int):=by omega
    have i1:(k:Int) < 8:=by omega
    have HS:Hid _:=dig_step U k
    have HP:Hid (put d k (U / 16777216 ^ k % 16777216) k = dig U k):=put_same _ _ _
    have u0:0 <= U / 16777216 ^ k:=Int.ediv_nonneg (by omega) (Int.le_of_lt (pos k))
    have u1:U / 16777216 ^ k < 18446744073709551616:=Int.lt_of_le_of_lt (Int.ediv_le_self _ (by omega)) (by omega)
    obtain ⟨x,hx⟩:∃ x,x = U / 16777216 ^ k:=⟨_,rfl⟩
    rw [<- hx] at HS HP u0 u1
    rw [<- hx]
    have HX:Hid _:=hx
    clear hx
    go_wp2
    go_roundw
    case rel =>
     refine ⟨k + 1,put d k (x % 16777216),by omega,by go_num,by rw [<- HS.out],fun j hj=>?_,?_,?_,?_⟩
     ·by_cases e:j = k
      ·subst e;exact HP.out
      ·rw [put_other _ _ e];exact HD.out j (by omega)
     ·exact HL.out.put hlt _
     ·exact HR.out.other (by simp) _
     ·exact HB.out.setCell (by simp) _
    case measure=>simp [intOf];omega
   ·have hk8:8 <= (k:Int):=by omega
    obtain ⟨c0,c1,c2,c3,c4,c5,c6,c7,c8⟩:=HL.out.cells
    obtain ⟨r0,r1,r2,r3,r4,r5,r6,r7,r8⟩:=HR.out.cells
    obtain ⟨f0,f1,f2,f3,f4,f5,f6,f7,f8⟩:=HR.out.frees
    go_wp2
    try simp only [Exit.inBlock,Exit.then]
    refine bodyPost_ret (by simp [results,Tryz.results120,go_sem,r0,r1,r2,r3,r4,r5,r6,r7,r8];try rfl) rfl ?_
    refine ⟨_,d,rfl,HE.out d (fun j hj=>HD.out j (by omega)),?_⟩
    exact below_nine HB.out (Nat.le_refl _)
 ·obtain rfl:s = false:=by rw [hs];simp [hn]
  clear hs
  obtain rfl:U = n:=by omega
  clear hU
  go_enter Tryz.func120,Tryz.ntmps120
  go_wp2
  go_loopw [4,5] (fun u i wr=>∃ (k:Nat) (d:Nat->Int),k <= 8/\i = .int .i64 k/\u = .int .u64 (U / 16777216 ^ k)/\Hid (∀ j,j < k->d j = dig U j)/\Hid (RLies wr (w.heap.size + 1) false d)/\Hid (RLies wr w.heap.size false (fun _=>0))/\Hid (Below w.heap.size w wr)) (fun _ i _=>8 - (intOf i).toNat)
  case atStart=>exact ⟨0,fun _=>0,Nat.zero_le _,rfl,by simp,fun j hj=>by omega,by show RLies _ _ _ _;have:=lies_new (w.alloc (.cells #[.bool false,.int .i64 0,.int .i64 0,.int .i64 0,.int .i64 0,.int .i64 0,.int .i64 0,.int .i64 0,.int .i64 0] 133)) false (fun _=>0) 133;simpa only [World.size_alloc] using this,RLies.alloc (lies_new w false (fun _=>0) 133) _,(new_after w _).alloc (by simp) _⟩
  case round =>
   obtain ⟨k,d,hk,rfl,rfl,HD,HL,HR,HB⟩:=hrel
   by_cases hlt:k < 8
   ·have hcell:=HL.out.dig k hlt
    have hfree:=HL.out.free (1 + k) (by omega)
    have i0:(0:Int) <= (k:Int):=by omega
    have i1:(k:Int) < 8:=by omega
    have HS:Hid _:=dig_step U k
    have HP:Hid (put d k (U / 16777216 ^ k % 16777216) k = dig U k):=put_same _ _ _
    have u0:0 <= U / 16777216 ^ k:=Int.ediv_nonneg (by omega) (Int.le_of_lt (pos k))
    have u1:U / 16777216 ^ k < 18446744073709551616:=Int.lt_of_le_of_lt (Int.ediv_le_self _ (by omega)) (by omega)
    obtain ⟨x,hx⟩:∃ x,x = U / 16777216 ^ k:=⟨_,rfl⟩
    rw [<- hx] at HS HP u0 u1
    rw [<- hx]
    have HX:Hid _:=hx
    clear hx
    go_wp2
    go_roundw
    case rel =>
     refine ⟨k + 1,put d k (x % 16777216),by omega,by go_num,by rw [<- HS.out],fun j hj=>?_,?_,?_,?_⟩
     ·by_cases e:j = k
      ·subst e;exact HP.out
      ·rw [put_other _ _ e];exact HD.out j (by omega)
     ·exact HL.out.put hlt _
     ·exact HR.out.other (by simp) _
     ·exact HB.out.setCell (by simp) _
    case measure=>simp [intOf];omega
   ·have hk8:8 <= (k:Int):=by omega
    obtain ⟨c0,c1,c2,c3,c4,c5,c6,c7,c8⟩:=HL.out.cells
    obtain ⟨r0,r1,r2,r3,r4,r5,r6,r7,r8⟩:=HR.out.cells
    obtain ⟨f0,f1,f2,f3,f4,f5,f6,f7,f8⟩:=HR.out.frees
    go_wp2
    try simp only [Exit.inBlock,Exit.then]
    refine bodyPost_ret (by simp [results,Tryz.results120,go_sem,r0,r1,r2,r3,r4,r5,r6,r7,r8];try rfl) rfl ?_
    refine ⟨_,d,rfl,HE.out d (fun j hj=>HD.out j (by omega)),?_⟩
    exact below_nine HB.out (Nat.le_refl _)
end
section
open Go.RowKit Ref
theorem size_same {a b:Nat->Int} (h:∀ j,0 <= j->j < 8->a j = b j):val a 8 = val b 8:=val_ext 8 fun j hj=>h j (Nat.zero_le _) hj
theorem size_less {a b:Nat->Int} {m:Nat} (ha:Digs a) (hb:Digs b) (hm:m < 8) (h:∀ j,m + 1 <= j->j < 8->a j = b j) (hl:a m < b m):val a 8 < val b 8:=
 val_less m (fun j hj=>ha j (by omega)) (fun j hj=>(hb j (by omega)).1) hl 8 hm (fun j h1 h2=>h j h1 h2)
theorem sizes_any (s t:Bool) (a b:Nat->Int) (w:World) (ha:Digs a) (hb:Digs b) :
  Calls Tryz.prog 124 #[wv s a,wv t b] w fun e w'=>∃ c,e = .returned (.int .i64 c)/\Hid ((c = -1/\val a 8 < val b 8) \/ (c = 0/\val a 8 = val b 8) \/ (c = 1/\val b 8 < val a 8))/\Hid (Below w.heap.size w w'):=by
 have HA:Hid _:=ha
 have HC:Hid _:=hb
 clear ha hb
 go_enter Tryz.func124,Tryz.ntmps124
 go_wp2
 go_loopw [5] (fun i wr=>∃ (k:Nat),k <= 8/\i = .int .i64 ((k:Int) - 1)/\Hid (∀ j,k <= j->j < 8->a j = b j)/\Hid (RLies wr w.heap.size s a)/\Hid (RLies wr (w.heap.size + 1) t b)/\Hid (Below w.heap.size w wr)) (fun i _=>(intOf i + 1).toNat)
 case atStart=>exact ⟨8,Nat.le_refl _,rfl,fun j h1 h2=>by omega,RLies.alloc (lies_new w s a 133) _,by show RLies _ _ _ _;have:=lies_new (w.alloc (.cells #[.bool s,.int .i64 (a 0),.int .i64 (a 1),.int .i64 (a 2),.int .i64 (a 3),.int .i64 (a 4),.int .i64 (a 5),.int .i64 (a 6),.int .i64 (a 7)] 133)) t b 133;simpa only [World.size_alloc] using this,(new_after w _).alloc (by simp) _⟩
 case round =>
  obtain ⟨k,hk,rfl,HD,HL,HR,HB⟩:=hrel
  match k,hk,HD with
  | 0,_,HD =>
   go_wp2
   go_ret
   exact ⟨0,rfl,Or.inr (Or.inl ⟨rfl,size_same HD.out⟩),HB.out⟩
  | m + 1,hm,HD =>
   have e:((m + 1:Nat):Int) - 1 = (m:Int):=by omega
   rw [e]
   have i0:(0:Int) <= (m:Int):=by omega
   have i1:(m:Int) < 8:=by omega
   have c0:=HL.out.dig m (by omega)
   have c1:=HR.out.dig m (by omega)
   have HX:Hid _:=HD
   clear HD e
   rcases Int.lt_trichotomy (a m) (b m) with g | g | g
   ·have HG:Hid _:=size_less HA.out HC.out (by omega) HX.out g
    go_wp2
    go_region
    all_goals go_wp2
    all_goals go_ret
    all_goals exact ⟨-1,rfl,Or.inl ⟨rfl,HG.out⟩,HB.out.drew⟩
   ·have HG:Hid _:=g
    rw [<- g] at c1
    clear g
    go_wp2
    go_region
    all_goals go_wp2
    all_goals go_region
    all_goals go_wp2
    all_goals go_roundw
    all_goals try (case rel=>exact ⟨m,by omega,by go_num,fun j h1 h2=>by by_cases e:j = m;(subst e;exact HG.out);exact HX.out j (by omega) h2,HL.out.drew.drew,HR.out.drew.drew,HB.out.drew.drew⟩)
    all_goals try (case measure=>show (((m:Int) - 1) + 1).toNat < ((m:Int) + 1).toNat;omega)
   ·have HG:Hid _:=size_less HC.out HA.out (by omega) (fun j h1 h2=>(HX.out j h1 h2).symm) g
    go_wp2
    go_region
    all_goals go_wp2
    all_goals go_region
    all_goals go_wp2
    all_goals go_ret
    all_goals exact ⟨1,rfl,Or.inr (Or.inr ⟨rfl,HG.out⟩),HB.out.drew.drew⟩
theorem sv_zero {s:Bool} {d:Nat->Int} (h:val d 8 = 0):sv s d = 0:=by unfold sv;cases s <;> simp [h]
theorem sign_any (s:Bool) (a:Nat->Int) (w:World) (ha:Digs a) :
  Calls Tryz.prog 123 #[wv s a] w fun e w'=>∃ c,e = .returned (.int .i64 c)/\Hid (-1 <= c/\c <= 1/\(c < 0 ↔ sv s a < 0))/\Hid (Below w.heap.size w w'):=by
 have HC:Hid _:=fun w=>sizes_any s false a (fun _=>0) w ha (fun j _=>by simp)
 have hz:val (fun _=>0) 8 = 0:=by simp [val]
 have HZ:Hid _:=hz
 have HA:Hid _:=ha.nonneg
 clear ha hz
 go_enter Tryz.func123,Tryz.ntmps123
 go_wp2_with (fail)
 refine (HC.out _).mono ?_
 rintro e w' ⟨c,rfl,S,B⟩
 have HB:Hid _:=below_step (w:=w) ((new_after w _).alloc (by simp) _) B.out
 rw [HZ.out] at S
 have hcell:w'.cell? ⟨w.heap.size,0,none⟩ = some (.bool s):=cell_after B.out (by simp)
 clear B HC HZ
 rcases S.out with ⟨rfl,h⟩ | ⟨rfl,h⟩ | ⟨rfl,h⟩
 ·exact absurd h (by have:=HA.out;omega)
 ·have HH:Hid _:=sv_zero (s:=s) h
  clear h
  go_wp2
  go_ret
  exact ⟨0,rfl,⟨by omega,by omega,by have:=HH.out;omega⟩,HB.out⟩
 ·cases s
  ·go_wp2
   go_ret
   exact ⟨1,rfl,⟨by omega,by omega,by unfold sv;simp;omega⟩,HB.out⟩
  ·go_wp2
   go_ret
   exact ⟨-1,rfl,⟨by omega,by omega,by unfold sv;simp;omega⟩,HB.out⟩
end
end Go.Proofs.YtohbjabihdgjhaaGreat
