/- Plain arithmetic of numbers by digits of 24 bits, no program in sight: sums, differences, products and what they compare to. -/
import Derived.Test.YteebbpioffdncaaGreatEBBack2
import Derived.Test.YteebbpioffdncaaGreatEBBack3
import Derived.Deep.RegionWith
set_option maxHeartbeats 1000000
set_option linter.unusedVariables false
namespace Go.Proofs.YteebbpioffdncaaGreat
open Go.World renaming size_alloc -> JE
open Tryz
open Go.Value renaming int -> J
open Go.IntKind renaming i64 -> I
section
namespace Ref
def val (d:Nat->Int):Nat->Int
 | 0=>0
 | n + 1=>val d n + d n * 16777216 ^ n
def Digs (d:Nat->Int):Prop:=∀ j,j < 8->0 <= d j/\d j < 16777216
def put (d:Nat->Int) (k:Nat) (v:Int):Nat->Int:=fun j=>if j = k then v else d j
theorem Jda (d:Nat->Int) (k:Nat) (v:Int):put d k v k = v:=by simp [put]
theorem Jcx (d:Nat->Int) {k j:Nat} (v:Int) (h:j ≠ k):put d k v j = d j:=by simp [put,h]
theorem pos (n:Nat):(0:Int) < 16777216 ^ n:=Int.pow_pos (by omega)
theorem Jey {d e:Nat->Int}:∀ n,(∀ j,j < n->d j = e j)->val d n = val e n
 | 0,_=>rfl
 | n + 1,h=>by
  simp only [val]
  rw [Jey n (fun j hj=>h j (by omega)),h n (by omega)]
theorem Jfi (d:Nat->Int) (k:Nat) (v:Int) (n:Nat) (h:n <= k):val (put d k v) n = val d n:=
 Jey n fun j hj=>Jcx d v (by omega)
theorem Jns (d:Nat->Int) (k:Nat) (v:Int):∀ n,k < n->val (put d k v) n = val d n + (v - d k) * 16777216 ^ k
 | 0,h=>by omega
 | n + 1,h=>by
  simp only [val]
  by_cases e:k = n
  ·subst e
   rw [Jfi d k v k (Nat.le_refl _),Jda,Int.sub_mul];omega
  ·rw [Jns d k v n (by omega),Jcx d v (by omega:n ≠ k)];omega
theorem Jcf {d:Nat->Int}:∀ n,(∀ j,j < n->0 <= d j)->0 <= val d n
 | 0,_=>by simp [val]
 | n + 1,h=>by
  have a:=Jcf n (fun j hj=>h j (by omega))
  have b:=Int.mul_nonneg (h n (by omega)) (Int.le_of_lt (pos n))
  simp only [val];omega
theorem Jnf {d:Nat->Int}:∀ n,(∀ j,j < n->0 <= d j/\d j < 16777216)->val d n < 16777216 ^ n
 | 0,_=>by simp [val]
 | n + 1,h=>by
  have a:=Jnf n (fun j hj=>h j (by omega))
  have b:=Int.mul_le_mul_of_nonneg_right (by have:=h n (by omega);omega:d n <= 16777215) (Int.le_of_lt (pos n))
  simp only [val,Int.pow_succ];omega
theorem Digs.nonneg {d:Nat->Int} (h:Digs d):0 <= val d 8:=Jcf 8 fun j hj=>(h j hj).1
theorem Digs.lt {d:Nat->Int} (h:Digs d):val d 8 < 6277101735386680763835789423207666416102355444464034512896:=by
 have:=Jnf 8 h;simpa using this
theorem Digs.put {d:Nat->Int} (h:Digs d) (k:Nat) {v:Int} (hv:0 <= v/\v < 16777216):Digs (put d k v):=by
 intro j hj
 by_cases e:j = k
 ·subst e;rw [Jda];exact hv
 ·rw [Jcx d v e];exact h j hj
theorem Jlf {a b:Nat->Int} (i:Nat) (ha:∀ j,j < i->0 <= a j/\a j < 16777216) (hb:∀ j,j < i->0 <= b j) (h:a i < b i):∀ n,i < n->(∀ j,i < j->j < n->a j = b j)->val a n < val b n
 | 0,hn,_=>by omega
 | n + 1,hn,he=>by
  simp only [val]
  by_cases e:i = n
  ·subst e
   have h1:=Jnf i ha
   have h2:=Jcf i hb
   have h3:=Int.mul_le_mul_of_nonneg_right (by omega:a i + 1 <= b i) (Int.le_of_lt (pos i))
   rw [Int.add_mul] at h3;omega
  ·have:=Jlf i ha hb h n (by omega) (fun j h1 h2=>he j h1 (by omega))
   rw [he n (by omega) (by omega)];omega
theorem Jqu {V A B c x y P:Int} (h:V + c * P = A + B):V + (x + y + c) % 16777216 * P + (x + y + c) / 16777216 * (P * 16777216) = A + x * P + (B + y * P):=by
 have e:=Int.emod_add_mul_ediv (x + y + c) 16777216
 obtain ⟨r,hr⟩:∃ r,r = (x + y + c) % 16777216:=⟨_,rfl⟩
 obtain ⟨q,hq⟩:∃ q,q = (x + y + c) / 16777216:=⟨_,rfl⟩
 rw [<- hr,<- hq] at e ⊢
 have:(r + 16777216 * q) * P = (x + y + c) * P:=by rw [e]
 grind
theorem Jqy {V c o x y P R:Int} (h:V + c * P = R):V + ((o + x * y + c) % 16777216 - o) * P + (o + x * y + c) / 16777216 * (P * 16777216) = R + x * y * P:=by
 have e:=Int.emod_add_mul_ediv (o + x * y + c) 16777216
 obtain ⟨r,hr⟩:∃ r,r = (o + x * y + c) % 16777216:=⟨_,rfl⟩
 obtain ⟨q,hq⟩:∃ q,q = (o + x * y + c) / 16777216:=⟨_,rfl⟩
 rw [<- hr,<- hq] at e ⊢
 have:(r + 16777216 * q) * P = (o + x * y + c) * P:=by rw [e]
 grind
def dig (u:Int) (j:Nat):Int:=u / 16777216 ^ j % 16777216
theorem Jkq (u:Int) (k:Nat):u / 16777216 ^ k / 16777216 = u / 16777216 ^ (k + 1):=by
 rw [Int.pow_succ,Int.ediv_ediv_of_nonneg (Int.le_of_lt (pos k))]
theorem Jnx (u:Int):∀ n,val (dig u) n = u % 16777216 ^ n
 | 0=>by simp [val,Int.emod_one]
 | n + 1=>by
  simp only [val,Jnx u n,dig]
  rw [Int.pow_succ]
  have h1:=Int.emod_add_mul_ediv u (16777216 ^ n)
  have h2:=Int.emod_add_mul_ediv (u / 16777216 ^ n) 16777216
  have hp:=pos n
  have b1:=Int.emod_nonneg u (by omega:(16777216:Int) ^ n ≠ 0)
  have b2:=Int.emod_lt_of_pos u hp
  have b3:=Int.emod_nonneg (u / 16777216 ^ n) (by omega:(16777216:Int) ≠ 0)
  have b4:=Int.emod_lt_of_pos (u / 16777216 ^ n) (by omega:(0:Int) < 16777216)
  generalize (16777216:Int) ^ n = P at *
  generalize u % P = r at *
  generalize u / P = q at *
  generalize q % 16777216 = s at *
  generalize q / 16777216 = t at *
  have hs:s * P <= 16777215 * P:=Int.mul_le_mul_of_nonneg_right (by omega) (by omega)
  have hs0:0 <= s * P:=Int.mul_nonneg b3 (by omega)
  have e:u = (P * 16777216) * t + (r + s * P):=by rw [<- h1,<- h2];grind
  rw [e,Int.mul_add_emod_self_left,Int.emod_eq_of_lt (by omega) (by omega)]
def sv (s:Bool) (d:Nat->Int):Int:=if s then -val d 8 else val d 8
end Ref
end
section
open Go.RowKit Ref
@[reducible] def wv (s:Bool) (d:Nat->Int):Value:=.agg #[.bool s,J I (d 0),J I (d 1),J I (d 2),J I (d 3),J I (d 4),J I (d 5),J I (d 6),J I (d 7)]
structure RLies (w:World) (b:Nat) (s:Bool) (d:Nat->Int):Prop where
 neg:w.cell? ⟨b,0,none⟩ = some (.bool s)
 dig:∀ k,k < 8->w.cell? ⟨b,1 + k,none⟩ = some (J I (d k))
 free:∀ k,k < 9->w.frozen? ⟨b,k,none⟩ = false
theorem RLies.lt {w:World} {b:Nat} {s:Bool} {d:Nat->Int} (h:RLies w b s d):b < w.heap.size:=World.block_lt_of_cell? _ _ h.neg
theorem J4 (w:World) (s:Bool) (d:Nat->Int) (t:TypeId) :
  RLies (w.alloc (.cells #[.bool s,J I (d 0),J I (d 1),J I (d 2),J I (d 3),J I (d 4),J I (d 5),J I (d 6),J I (d 7)] t)) w.heap.size s d:=by
 refine ⟨by simp,fun k hk=>?_,fun k hk=>by simp⟩
 match k,hk with
 | 0,_=>simp
 | 1,_=>simp
 | 2,_=>simp
 | 3,_=>simp
 | 4,_=>simp
 | 5,_=>simp
 | 6,_=>simp
 | 7,_=>simp
theorem RLies.below {w w':World} {b B:Nat} {s:Bool} {d:Nat->Int} (h:RLies w b s d) (hb:Below B w w') (hB:b < B):RLies w' b s d:=
 ⟨(hb.cell hB).trans h.neg,fun k hk=>(hb.cell hB).trans (h.dig k hk),fun k hk=>(hb.frozen hB).trans (h.free k hk)⟩
theorem RLies.alloc {w:World} {b:Nat} {s:Bool} {d:Nat->Int} (h:RLies w b s d) (o:Obj):RLies (w.alloc o) b s d:=
 h.below (Jg w o) h.lt
theorem RLies.other {w:World} {b:Nat} {s:Bool} {d:Nat->Int} (h:RLies w b s d) {a:Addr} (hne:b ≠ a.block) (v:Value):RLies (w.setCell a v) b s d:=
 ⟨(World.cell?_of_block (w:=w) (Below.heap_setCell _ _ _ _ hne)).trans h.neg,fun k hk=>(World.cell?_of_block (w:=w) (Below.heap_setCell _ _ _ _ hne)).trans (h.dig k hk),
  fun k hk=>(World.frozen?_of_block (w:=w) (Below.heap_setCell _ _ _ _ hne)).trans (h.free k hk)⟩
theorem RLies.put {w:World} {b:Nat} {s:Bool} {d:Nat->Int} (h:RLies w b s d) {k:Nat} (hk:k < 8) (v:Int):RLies (w.setCell ⟨b,1 + k,none⟩ (J I v)) b s (put d k v):=by
 have hd:=h.dig k hk
 refine ⟨?_,fun j hj=>?_,fun j hj=>?_⟩
 ·rw [<- h.neg];simp [go_sem]
 ·have hj':=h.dig j hj
  by_cases e:j = k
  ·subst e;simp [go_sem,hd,Jda]
  ·rw [Jcx d v e,<- hj'];simp [go_sem]
 ·rw [<- h.free j hj];simp [go_sem]
theorem RLies.drew {w:World} {b:Nat} {s:Bool} {d:Nat->Int} (h:RLies w b s d):RLies w.drew b s d:=⟨h.neg,h.dig,h.free⟩
theorem RLies.cells {w:World} {b:Nat} {s:Bool} {d:Nat->Int} (h:RLies w b s d):w.cell? ⟨b,0,none⟩ = some (.bool s)/\w.cell? ⟨b,1,none⟩ = some (J I (d 0))/\w.cell? ⟨b,2,none⟩ = some (J I (d 1))/\w.cell? ⟨b,3,none⟩ = some (J I (d 2))/\w.cell? ⟨b,4,none⟩ = some (J I (d 3))/\w.cell? ⟨b,5,none⟩ = some (J I (d 4))/\w.cell? ⟨b,6,none⟩ = some (J I (d 5))/\w.cell? ⟨b,7,none⟩ = some (J I (d 6))/\w.cell? ⟨b,8,none⟩ = some (J I (d 7)):=
 ⟨h.neg,h.dig 0 (by omega),h.dig 1 (by omega),h.dig 2 (by omega),h.dig 3 (by omega),h.dig 4 (by omega),h.dig 5 (by omega),h.dig 6 (by omega),h.dig 7 (by omega)⟩
theorem RLies.frees {w:World} {b:Nat} {s:Bool} {d:Nat->Int} (h:RLies w b s d):w.frozen? ⟨b,0,none⟩ = false/\w.frozen? ⟨b,1,none⟩ = false/\w.frozen? ⟨b,2,none⟩ = false/\w.frozen? ⟨b,3,none⟩ = false/\w.frozen? ⟨b,4,none⟩ = false/\w.frozen? ⟨b,5,none⟩ = false/\w.frozen? ⟨b,6,none⟩ = false/\w.frozen? ⟨b,7,none⟩ = false/\w.frozen? ⟨b,8,none⟩ = false:=
 ⟨h.free 0 (by omega),h.free 1 (by omega),h.free 2 (by omega),h.free 3 (by omega),h.free 4 (by omega),h.free 5 (by omega),h.free 6 (by omega),h.free 7 (by omega),h.free 8 (by omega)⟩
theorem Jay {w W:World} {b:Nat} {v0 v1 v2 v3 v4 v5 v6 v7 v8:Value} (h:Below w.heap.size w W) (hb:w.heap.size <= b) :
  Below w.heap.size w (((((((((W.setCell ⟨b,0,none⟩ v0).setCell ⟨b,1,none⟩ v1).setCell ⟨b,2,none⟩ v2).setCell ⟨b,3,none⟩ v3).setCell ⟨b,4,none⟩ v4).setCell ⟨b,5,none⟩ v5).setCell ⟨b,6,none⟩ v6).setCell ⟨b,7,none⟩ v7).setCell ⟨b,8,none⟩ v8):=
 ((((((((h.setCell hb _).setCell hb _).setCell hb _).setCell hb _).setCell hb _).setCell hb _).setCell hb _).setCell hb _).setCell hb _
theorem Jt2 {n U:Int} {s:Bool} (h1:-9223372036854775808 <= n) (h2:n < 9223372036854775808) (hs:s = decide (n < 0)) (hU:U = n.natAbs) (d:Nat->Int) (hd:∀ j,j < 8->d j = dig U j):Digs d/\sv s d = n:=by
 refine ⟨fun j hj=>?_,?_⟩
 ·rw [hd j hj];exact ⟨Int.emod_nonneg _ (by omega),Int.emod_lt_of_pos _ (by omega)⟩
 ·have h:=Jey (e:=dig U) 8 hd
  rw [Jnx] at h
  unfold sv
  rw [h,hs,hU]
  by_cases g:n < 0
  ·simp [g];omega
  ·simp [g];omega
theorem Jb0 (n:Int) (w:World) (h1:-9223372036854775808 <= n) (h2:n < 9223372036854775808) :
  Calls Tryz.prog 21 #[J I n] w fun e w'=>∃ s d,e = .returned (wv s d)/\Hid (Digs d/\sv s d = n)/\Hid (Below w.heap.size w w'):=by
 obtain ⟨s,hs⟩:∃ s,s = decide (n < 0):=⟨_,rfl⟩
 obtain ⟨U,hU⟩:∃ U:Int,U = n.natAbs:=⟨_,rfl⟩
 have HE:Hid (∀ d,(∀ j,j < 8->d j = dig U j)->Digs d/\sv s d = n):=Jt2 h1 h2 hs hU
 by_cases hn:n < 0
 ·obtain rfl:s = true:=by rw [hs];simp [hn]
  clear hs
  obtain rfl:n = -U:=by omega
  clear hU
  go_enter func21,ntmps21
  go_wp2
  go_loopw [4,5] (fun u i wr=>∃ (k:Nat) (d:Nat->Int),k <= 8/\i = J I k/\u = .int .u64 (U / 16777216 ^ k)/\Hid (∀ j,j < k->d j = dig U j)/\Hid (RLies wr (w.heap.size + 1) true d)/\Hid (RLies wr w.heap.size false (fun _=>0))/\Hid (Below w.heap.size w wr)) (fun _ i _=>8 - (intOf i).toNat)
  case atStart=>exact ⟨0,fun _=>0,Nat.zero_le _,rfl,by simp [IntKind.wrap,IntKind.bits,IntKind.signed];omega,fun j hj=>by omega,by show RLies _ _ _ _;have:=J4 (w.alloc (.cells #[.bool false,J I 0,J I 0,J I 0,J I 0,J I 0,J I 0,J I 0,J I 0] 58)) true (fun _=>0) 58;simpa only [JE] using this,RLies.alloc (J4 w false (fun _=>0) 58) _,(Jg w _).alloc (by simp) _⟩
  case round =>
   obtain ⟨k,d,hk,rfl,rfl,HD,HL,HR,HB⟩:=hrel
   by_cases hlt:k < 8
   ·have hcell:=HL.out.dig k hlt
    have hfree:=HL.out.free (1 + k) (by omega)
    have i0:(0:Int) <= (k:Int):=by omega
    have i1:(k:Int) < 8:=by omega
    have HS:Hid _:=Jkq U k
    have HP:Hid (put d k (U / 16777216 ^ k % 16777216) k = dig U k):=Jda _ _ _
    have u0:0 <= U / 16777216 ^ k:=Int.ediv_nonneg (by omega) (Int.le_of_lt (pos k))
    have u1:U / 16777216 ^ k < 18446744073709551616:=Int.lt_of_le_of_lt (Int.ediv_le_self _ (by omega)) (by omega)
    obtain ⟨x,hx⟩:∃ x,x = U / 16777216 ^ k:=⟨_,rfl⟩
    rw [<- hx] at HS HP u0 u1
    rw [<- hx]
    have HX:Hid _:=hx
    clear hx
    go_wp2
    go_roundw
    case rel =>
     refine ⟨k + 1,put d k (x % 16777216),by omega,by go_num,by rw [<- HS.out],fun j hj=>?_,?_,?_,?_⟩
     ·by_cases e:j = k
      ·subst e;exact HP.out
      ·rw [Jcx _ _ e];exact HD.out j (by omega)
     ·exact HL.out.put hlt _
     ·exact HR.out.other (by simp) _
     ·exact HB.out.setCell (by simp) _
    case measure=>simp [intOf];omega
   ·have hk8:8 <= (k:Int):=by omega
    obtain ⟨c0,c1,c2,c3,c4,c5,c6,c7,c8⟩:=HL.out.cells
    obtain ⟨r0,r1,r2,r3,r4,r5,r6,r7,r8⟩:=HR.out.cells
    obtain ⟨f0,f1,f2,f3,f4,f5,f6,f7,f8⟩:=HR.out.frees
    go_wp2
    try simp only [Exit.inBlock,Exit.then]
    refine bodyPost_ret (by simp [results,results21,go_sem,r0,r1,r2,r3,r4,r5,r6,r7,r8];try rfl) rfl ?_
    refine ⟨_,d,rfl,HE.out d (fun j hj=>HD.out j (by omega)),?_⟩
    exact Jay HB.out (Nat.le_refl _)
 ·obtain rfl:s = false:=by rw [hs];simp [hn]
  clear hs
  obtain rfl:U = n:=by omega
  clear hU
  go_enter func21,ntmps21
  go_wp2
  go_loopw [4,5] (fun u i wr=>∃ (k:Nat) (d:Nat->Int),k <= 8/\i = J I k/\u = .int .u64 (U / 16777216 ^ k)/\Hid (∀ j,j < k->d j = dig U j)/\Hid (RLies wr (w.heap.size + 1) false d)/\Hid (RLies wr w.heap.size false (fun _=>0))/\Hid (Below w.heap.size w wr)) (fun _ i _=>8 - (intOf i).toNat)
  case atStart=>exact ⟨0,fun _=>0,Nat.zero_le _,rfl,by simp,fun j hj=>by omega,by show RLies _ _ _ _;have:=J4 (w.alloc (.cells #[.bool false,J I 0,J I 0,J I 0,J I 0,J I 0,J I 0,J I 0,J I 0] 58)) false (fun _=>0) 58;simpa only [JE] using this,RLies.alloc (J4 w false (fun _=>0) 58) _,(Jg w _).alloc (by simp) _⟩
  case round =>
   obtain ⟨k,d,hk,rfl,rfl,HD,HL,HR,HB⟩:=hrel
   by_cases hlt:k < 8
   ·have hcell:=HL.out.dig k hlt
    have hfree:=HL.out.free (1 + k) (by omega)
    have i0:(0:Int) <= (k:Int):=by omega
    have i1:(k:Int) < 8:=by omega
    have HS:Hid _:=Jkq U k
    have HP:Hid (put d k (U / 16777216 ^ k % 16777216) k = dig U k):=Jda _ _ _
    have u0:0 <= U / 16777216 ^ k:=Int.ediv_nonneg (by omega) (Int.le_of_lt (pos k))
    have u1:U / 16777216 ^ k < 18446744073709551616:=Int.lt_of_le_of_lt (Int.ediv_le_self _ (by omega)) (by omega)
    obtain ⟨x,hx⟩:∃ x,x = U / 16777216 ^ k:=⟨_,rfl⟩
    rw [<- hx] at HS HP u0 u1
    rw [<- hx]
    have HX:Hid _:=hx
    clear hx
    go_wp2
    go_roundw
    case rel =>
     refine ⟨k + 1,put d k (x % 16777216),by omega,by go_num,by rw [<- HS.out],fun j hj=>?_,?_,?_,?_⟩
     ·by_cases e:j = k
      ·subst e;exact HP.out
      ·rw [Jcx _ _ e];exact HD.out j (by omega)
     ·exact HL.out.put hlt _
     ·exact HR.out.other (by simp) _
     ·exact HB.out.setCell (by simp) _
    case measure=>simp [intOf];omega
   ·have hk8:8 <= (k:Int):=by omega
    obtain ⟨c0,c1,c2,c3,c4,c5,c6,c7,c8⟩:=HL.out.cells
    obtain ⟨r0,r1,r2,r3,r4,r5,r6,r7,r8⟩:=HR.out.cells
    obtain ⟨f0,f1,f2,f3,f4,f5,f6,f7,f8⟩:=HR.out.frees
    go_wp2
    try simp only [Exit.inBlock,Exit.then]
    refine bodyPost_ret (by simp [results,results21,go_sem,r0,r1,r2,r3,r4,r5,r6,r7,r8];try rfl) rfl ?_
    refine ⟨_,d,rfl,HE.out d (fun j hj=>HD.out j (by omega)),?_⟩
    exact Jay HB.out (Nat.le_refl _)
end
section
open Go.RowKit Ref
theorem Jod {a b:Nat->Int} (h:∀ j,0 <= j->j < 8->a j = b j):val a 8 = val b 8:=Jey 8 fun j hj=>h j (Nat.zero_le _) hj
theorem Jir {a b:Nat->Int} {m:Nat} (ha:Digs a) (hb:Digs b) (hm:m < 8) (h:∀ j,m + 1 <= j->j < 8->a j = b j) (hl:a m < b m):val a 8 < val b 8:=
 Jlf m (fun j hj=>ha j (by omega)) (fun j hj=>(hb j (by omega)).1) hl 8 hm (fun j h1 h2=>h j h1 h2)
theorem Jgc (s t:Bool) (a b:Nat->Int) (w:World) (ha:Digs a) (hb:Digs b) :
  Calls Tryz.prog 61 #[wv s a,wv t b] w fun e w'=>∃ c,e = .returned (J I c)/\Hid ((c = -1/\val a 8 < val b 8) \/ (c = 0/\val a 8 = val b 8) \/ (c = 1/\val b 8 < val a 8))/\Hid (Below w.heap.size w w'):=by
 have HA:Hid _:=ha
 have HC:Hid _:=hb
 clear ha hb
 go_enter func61,ntmps61
 go_wp2
 go_loopw [5] (fun i wr=>∃ (k:Nat),k <= 8/\i = J I ((k:Int) - 1)/\Hid (∀ j,k <= j->j < 8->a j = b j)/\Hid (RLies wr w.heap.size s a)/\Hid (RLies wr (w.heap.size + 1) t b)/\Hid (Below w.heap.size w wr)) (fun i _=>(intOf i + 1).toNat)
 case atStart=>exact ⟨8,Nat.le_refl _,rfl,fun j h1 h2=>by omega,RLies.alloc (J4 w s a 58) _,by show RLies _ _ _ _;have:=J4 (w.alloc (.cells #[.bool s,J I (a 0),J I (a 1),J I (a 2),J I (a 3),J I (a 4),J I (a 5),J I (a 6),J I (a 7)] 58)) t b 58;simpa only [JE] using this,(Jg w _).alloc (by simp) _⟩
 case round =>
  obtain ⟨k,hk,rfl,HD,HL,HR,HB⟩:=hrel
  match k,hk,HD with
  | 0,_,HD =>
   go_wp2
   go_ret
   exact ⟨0,rfl,Or.inr (Or.inl ⟨rfl,Jod HD.out⟩),HB.out⟩
  | m + 1,hm,HD =>
   have e:((m + 1:Nat):Int) - 1 = (m:Int):=by omega
   rw [e]
   have i0:(0:Int) <= (m:Int):=by omega
   have i1:(m:Int) < 8:=by omega
   have c0:=HL.out.dig m (by omega)
   have c1:=HR.out.dig m (by omega)
   have HX:Hid _:=HD
   clear HD e
   rcases Int.lt_trichotomy (a m) (b m) with g | g | g
   ·have HG:Hid _:=Jir HA.out HC.out (by omega) HX.out g
    go_wp2
    go_region
    all_goals go_wp2
    all_goals go_ret
    all_goals exact ⟨-1,rfl,Or.inl ⟨rfl,HG.out⟩,HB.out.drew⟩
   ·have HG:Hid _:=g
    rw [<- g] at c1
    clear g
    go_wp2
    go_region
    all_goals go_wp2
    all_goals go_region
    all_goals go_wp2
    all_goals go_roundw
    all_goals try (case rel=>exact ⟨m,by omega,by go_num,fun j h1 h2=>by by_cases e:j = m;(subst e;exact HG.out);exact HX.out j (by omega) h2,HL.out.drew.drew,HR.out.drew.drew,HB.out.drew.drew⟩)
    all_goals try (case measure=>show (((m:Int) - 1) + 1).toNat < ((m:Int) + 1).toNat;omega)
   ·have HG:Hid _:=Jir HC.out HA.out (by omega) (fun j h1 h2=>(HX.out j h1 h2).symm) g
    go_wp2
    go_region
    all_goals go_wp2
    all_goals go_region
    all_goals go_wp2
    all_goals go_ret
    all_goals exact ⟨1,rfl,Or.inr (Or.inr ⟨rfl,HG.out⟩),HB.out.drew.drew⟩
theorem Jrx {s:Bool} {d:Nat->Int} (h:val d 8 = 0):sv s d = 0:=by unfold sv;cases s <;> simp [h]
theorem Jrf (s:Bool) (a:Nat->Int) (w:World) (ha:Digs a) :
  Calls Tryz.prog 63 #[wv s a] w fun e w'=>∃ c,e = .returned (J I c)/\Hid (-1 <= c/\c <= 1/\(c < 0 ↔ sv s a < 0))/\Hid (Below w.heap.size w w'):=by
 have HC:Hid _:=fun w=>Jgc s false a (fun _=>0) w ha (fun j _=>by simp)
 have hz:val (fun _=>0) 8 = 0:=by simp [val]
 have HZ:Hid _:=hz
 have HA:Hid _:=ha.nonneg
 clear ha hz
 go_enter func63,ntmps63
 go_wp2_with (fail)
 refine (HC.out _).mono ?_
 rintro e w' ⟨c,rfl,S,B⟩
 have HB:Hid _:=Jr (w:=w) ((Jg w _).alloc (by simp) _) B.out
 rw [HZ.out] at S
 have hcell:w'.cell? ⟨w.heap.size,0,none⟩ = some (.bool s):=Jh B.out (by simp)
 clear B HC HZ
 rcases S.out with ⟨rfl,h⟩ | ⟨rfl,h⟩ | ⟨rfl,h⟩
 ·exact absurd h (by have:=HA.out;omega)
 ·have HH:Hid _:=Jrx (s:=s) h
  clear h
  go_wp2
  go_ret
  exact ⟨0,rfl,⟨by omega,by omega,by have:=HH.out;omega⟩,HB.out⟩
 ·cases s
  ·go_wp2
   go_ret
   exact ⟨1,rfl,⟨by omega,by omega,by unfold sv;simp;omega⟩,HB.out⟩
  ·go_wp2
   go_ret
   exact ⟨-1,rfl,⟨by omega,by omega,by unfold sv;simp;omega⟩,HB.out⟩
end
section
open Go.RowKit Ref
theorem Jf6 {W:World} {b:Nat} {s₀ s:Bool} {d₀ d:Nat->Int} (h:RLies W b s₀ d₀):RLies (((((((((W.setCell ⟨b,0,none⟩ (.bool s)).setCell ⟨b,1,none⟩ (J I (d 0))).setCell ⟨b,2,none⟩ (J I (d 1))).setCell ⟨b,3,none⟩ (J I (d 2))).setCell ⟨b,4,none⟩ (J I (d 3))).setCell ⟨b,5,none⟩ (J I (d 4))).setCell ⟨b,6,none⟩ (J I (d 5))).setCell ⟨b,7,none⟩ (J I (d 6))).setCell ⟨b,8,none⟩ (J I (d 7))) b s d:=by
 obtain ⟨c0,c1,c2,c3,c4,c5,c6,c7,c8⟩:=h.cells
 refine ⟨by simp [go_sem,c0],fun k hk=>?_,fun k hk=>by rw [<- h.free k hk];simp [go_sem]⟩
 match k,hk with
 | 0,_=>simp [go_sem,c1]
 | 1,_=>simp [go_sem,c2]
 | 2,_=>simp [go_sem,c3]
 | 3,_=>simp [go_sem,c4]
 | 4,_=>simp [go_sem,c5]
 | 5,_=>simp [go_sem,c6]
 | 6,_=>simp [go_sem,c7]
 | 7,_=>simp [go_sem,c8]
theorem RLies.nine {W:World} {b e:Nat} {s t:Bool} {d x:Nat->Int} (h:RLies W e t x) (hne:e ≠ b):RLies (((((((((W.setCell ⟨b,0,none⟩ (.bool s)).setCell ⟨b,1,none⟩ (J I (d 0))).setCell ⟨b,2,none⟩ (J I (d 1))).setCell ⟨b,3,none⟩ (J I (d 2))).setCell ⟨b,4,none⟩ (J I (d 3))).setCell ⟨b,5,none⟩ (J I (d 4))).setCell ⟨b,6,none⟩ (J I (d 5))).setCell ⟨b,7,none⟩ (J I (d 6))).setCell ⟨b,8,none⟩ (J I (d 7))) e t x:=
 ((((((((h.other hne _).other hne _).other hne _).other hne _).other hne _).other hne _).other hne _).other hne _).other hne _
theorem RLies.otherAt {W:World} {b:Nat} {s:Bool} {d:Nat->Int} (h:RLies W b s d) {e off:Nat} (hne:b ≠ e) (v:Value):RLies (W.setCell ⟨e,off,none⟩ v) b s d:=h.other hne v
theorem Jh3 {H:Nat} {w W:World} (h:Below H w W) {e off:Nat} (he:H <= e) (v:Value):Below H w (W.setCell ⟨e,off,none⟩ v):=h.setCell he v
theorem Jql {a b d:Nat->Int} {k:Nat} {c n:Int} (ha:Digs a) (hb:Digs b) (hd:Digs d) (hk:k < 8) (hc:0 <= c/\c <= 1) (h:val d k + c * 16777216 ^ k = val a k + val b k) (hn:n = a k + b k + c) :
  Digs (put d k (n % 16777216))/\0 <= n / 16777216/\n / 16777216 <= 1/\val (put d k (n % 16777216)) (k + 1) + n / 16777216 * 16777216 ^ (k + 1) = val a (k + 1) + val b (k + 1):=by
 have h1:=ha k hk
 have h2:=hb k hk
 refine ⟨hd.put k ⟨Int.emod_nonneg _ (by omega),Int.emod_lt_of_pos _ (by omega)⟩,by omega,by omega,?_⟩
 simp only [val]
 rw [Jfi _ _ _ _ (Nat.le_refl _),Jda,Int.pow_succ,hn]
 exact Jqu h
theorem Jq2 {a b d:Nat->Int} {s:Bool} {c:Int} (hd:Digs d) (hc:0 <= c) (h:val d 8 + c * 16777216 ^ 8 = val a 8 + val b 8) (hfit:(sv s a + sv s b).natAbs < 6277101735386680763835789423207666416102355444464034512896):sv s d = sv s a + sv s b:=by
 have h0:=hd.nonneg
 have h1:(16777216:Int) ^ 8 = 6277101735386680763835789423207666416102355444464034512896:=by decide
 rw [h1] at h
 have e:(sv s a + sv s b).natAbs = (val a 8 + val b 8).natAbs:=by unfold sv;cases s <;> simp;omega
 rw [e] at hfit
 have:c = 0:=by omega
 subst this
 unfold sv;cases s <;> simp <;> omega
theorem Jj8 {a b d:Nat->Int} {k:Nat} {c n c':Int} (ha:Digs a) (hb:Digs b) (hd:Digs d) (hk:k < 8) (hc:0 <= c/\c <= 1) (h:val d k - c * 16777216 ^ k = val a k - val b k)
  (hn:(a k - b k - c < 0/\n = a k - b k - c + 16777216/\c' = 1) \/ (0 <= a k - b k - c/\n = a k - b k - c/\c' = 0)) :
  Digs (put d k n)/\0 <= c'/\c' <= 1/\val (put d k n) (k + 1) - c' * 16777216 ^ (k + 1) = val a (k + 1) - val b (k + 1):=by
 have h1:=ha k hk
 have h2:=hb k hk
 refine ⟨hd.put k (by omega),by omega,by omega,?_⟩
 simp only [val]
 rw [Jfi _ _ _ _ (Nat.le_refl _),Jda,Int.pow_succ]
 generalize (16777216:Int) ^ k = X at *
 rcases hn with ⟨_,rfl,rfl⟩ | ⟨_,rfl,rfl⟩ <;> grind
theorem Jko {a b d:Nat->Int} {c:Int} (hd:Digs d) (hc:0 <= c) (h:val d 8 - c * 16777216 ^ 8 = val a 8 - val b 8) (hle:val b 8 <= val a 8):val d 8 = val a 8 - val b 8:=by
 have h0:=hd.lt
 have h1:(16777216:Int) ^ 8 = 6277101735386680763835789423207666416102355444464034512896:=by decide
 rw [h1] at h
 have:c = 0:=by omega
 subst this
 omega
theorem Jo7 (s:Bool) (a b:Nat->Int) (w:World) (ha:Digs a) (hb:Digs b) (hfit:(sv s a + sv s b).natAbs < 6277101735386680763835789423207666416102355444464034512896) :
  Calls Tryz.prog 17 #[wv s a,wv s b] w fun e w'=>∃ u d,e = .returned (wv u d)/\Hid (Digs d/\sv u d = sv s a + sv s b)/\Hid (Below w.heap.size w w'):=by
 have HA:Hid _:=ha
 have HC:Hid _:=hb
 have HF:Hid _:=hfit
 clear ha hb hfit
 go_enter func17,ntmps17
 go_wp2
 go_loopw [5,7] (fun cc i wr=>∃ (k:Nat) (d:Nat->Int) (c:Int),k <= 8/\i = J I k/\cc = J I c/\0 <= c/\c <= 1/\Hid (Digs d/\val d k + c * 16777216 ^ k = val a k + val b k)/\Hid (RLies wr w.heap.size s a)/\Hid (RLies wr (w.heap.size + 1) s b)/\Hid (RLies wr (w.heap.size + 1 + 1) false (fun _=>0))/\Hid (RLies wr (w.heap.size + 1 + 1 + 1) s d)/\Hid (Below w.heap.size w wr)) (fun _ i _=>8 - (intOf i).toNat)
 case atStart =>
  exact ⟨0,a,0,Nat.zero_le _,rfl,rfl,by omega,by omega,⟨HA.out,by simp [val]⟩,(RLies.alloc (RLies.alloc (RLies.alloc (by show RLies _ _ _ _;have:=J4 w s a 58;simpa only [JE] using this) _) _) _),(RLies.alloc (RLies.alloc (by show RLies _ _ _ _;have:=J4 (w.alloc (.cells #[.bool s,J I (a 0),J I (a 1),J I (a 2),J I (a 3),J I (a 4),J I (a 5),J I (a 6),J I (a 7)] 58)) s b 58;simpa only [JE] using this) _) _),(RLies.alloc (by show RLies _ _ _ _;have:=J4 ((w.alloc (.cells #[.bool s,J I (a 0),J I (a 1),J I (a 2),J I (a 3),J I (a 4),J I (a 5),J I (a 6),J I (a 7)] 58)).alloc (.cells #[.bool s,J I (b 0),J I (b 1),J I (b 2),J I (b 3),J I (b 4),J I (b 5),J I (b 6),J I (b 7)] 58)) false (fun _=>0) 58;simpa only [JE] using this) _),(by show RLies _ _ _ _;have:=J4 (((w.alloc (.cells #[.bool s,J I (a 0),J I (a 1),J I (a 2),J I (a 3),J I (a 4),J I (a 5),J I (a 6),J I (a 7)] 58)).alloc (.cells #[.bool s,J I (b 0),J I (b 1),J I (b 2),J I (b 3),J I (b 4),J I (b 5),J I (b 6),J I (b 7)] 58)).alloc (.cells #[.bool false,J I 0,J I 0,J I 0,J I 0,J I 0,J I 0,J I 0,J I 0] 58)) s a 58;simpa only [JE] using this),((((Jg w _).alloc (by simp) _).alloc (by simp;omega) _).alloc (by simp;omega) _)⟩
 case round =>
  obtain ⟨k,d,c,hk,rfl,rfl,hc0,hc1,HD,HL,HR,HZ,HO,HB⟩:=hrel
  by_cases hlt:k < 8
  ·have e1:=HL.out.dig k hlt
   have e2:=HR.out.dig k hlt
   have e3:=HO.out.dig k hlt
   have e4:=HO.out.free (1 + k) (by omega)
   have i0:(0:Int) <= (k:Int):=by omega
   have i1:(k:Int) < 8:=by omega
   have b1:=HA.out k hlt
   have b2:=HC.out k hlt
   have HN:Hid _:=fun n hn=>Jql (n:=n) HA.out HC.out HD.out.1 hlt ⟨hc0,hc1⟩ HD.out.2 hn
   obtain ⟨p,hp⟩:∃ p,p = a k:=⟨_,rfl⟩
   obtain ⟨q,hq⟩:∃ q,q = b k:=⟨_,rfl⟩
   rw [<- hp] at e1 b1 HN
   rw [<- hq] at e2 b2 HN
   clear hp hq
   go_wp2
   go_region
   all_goals go_wp2
   all_goals go_roundw
   all_goals try (case rel=>obtain ⟨n1,n2,n3,n4⟩:=HN.out _ rfl;exact ⟨k + 1,put d k ((p + q + c) % 16777216),(p + q + c) / 16777216,by omega,by go_num,rfl,n2,n3,⟨n1,n4⟩,(HL.out.otherAt (by omega) _).drew,(HR.out.otherAt (by omega) _).drew,(HZ.out.otherAt (by omega) _).drew,(HO.out.put hlt _).drew,(Jh3 HB.out (by omega) _).drew⟩)
   all_goals try (case measure=>simp [intOf];omega)
  ·have hk8:8 <= (k:Int):=by omega
   have e8:k = 8:=by omega
   have HE:Hid (Digs d/\sv s d = sv s a + sv s b):=by
    obtain ⟨d1,d2⟩:=HD.out
    rw [e8] at d2
    exact ⟨d1,Jq2 d1 hc0 d2 HF.out⟩
   obtain ⟨c0,c1,c2,c3,c4,c5,c6,c7,c8⟩:=HO.out.cells
   obtain ⟨r0,r1,r2,r3,r4,r5,r6,r7,r8⟩:=HZ.out.cells
   obtain ⟨f0,f1,f2,f3,f4,f5,f6,f7,f8⟩:=HZ.out.frees
   clear e8 HD HF HA HC
   go_wp2
   try simp only [Exit.inBlock,Exit.then]
   refine bodyPost_ret (by simp [results,results17,go_sem,r0,r1,r2,r3,r4,r5,r6,r7,r8];try rfl) rfl ?_
   exact ⟨_,d,rfl,HE.out,Jay HB.out (by omega)⟩
theorem Jtr {s t:Bool} {a b d:Nat->Int} (hst:s ≠ t) (h:val d 8 = val a 8 - val b 8):sv s d = sv s a + sv t b:=by
 unfold sv;cases s <;> cases t <;> simp_all <;> omega
theorem Jss {s t:Bool} {a b d:Nat->Int} (hst:s ≠ t) (h:val d 8 = val b 8 - val a 8):sv t d = sv s a + sv t b:=by
 unfold sv;cases s <;> cases t <;> simp_all <;> omega
theorem Jlq (s t:Bool) (a b:Nat->Int) (w:World) (ha:Digs a) (hb:Digs b) (hst:s ≠ t) (hle:val b 8 <= val a 8) :
  Calls Tryz.prog 17 #[wv s a,wv t b] w fun e w'=>∃ u d,e = .returned (wv u d)/\Hid (Digs d/\sv u d = sv s a + sv t b)/\Hid (Below w.heap.size w w'):=by
 have HS:Hid _:=fun w=>Jgc s t a b w ha hb
 have HA:Hid _:=ha
 have HC:Hid _:=hb
 have HF:Hid (s ≠ t/\val b 8 <= val a 8):=⟨hst,hle⟩
 have hb1:(s == t) = false:=by simp [hst]
 clear ha hb hst hle
 go_enter func17,ntmps17
 go_wp2_with (fail)
 refine (HS.out _).mono ?_
 rintro e w1 ⟨c,rfl,SC,B⟩
 have hc0:0 <= c:=by have:=HF.out.2;rcases SC.out with h | h | h <;> omega
 have LA:Hid _:=RLies.below (RLies.alloc (RLies.alloc (by show RLies _ _ _ _;have:=J4 w s a 58;simpa only [JE] using this) _) _) B.out (by first | (simp;done) | (simp;omega))
 have LB:Hid _:=RLies.below (RLies.alloc (by show RLies _ _ _ _;have:=J4 (w.alloc (.cells #[.bool s,J I (a 0),J I (a 1),J I (a 2),J I (a 3),J I (a 4),J I (a 5),J I (a 6),J I (a 7)] 58)) t b 58;simpa only [JE] using this) _) B.out (by first | (simp;done) | (simp;omega))
 have LZ:Hid _:=RLies.below (by show RLies _ _ _ _;have:=J4 ((w.alloc (.cells #[.bool s,J I (a 0),J I (a 1),J I (a 2),J I (a 3),J I (a 4),J I (a 5),J I (a 6),J I (a 7)] 58)).alloc (.cells #[.bool t,J I (b 0),J I (b 1),J I (b 2),J I (b 3),J I (b 4),J I (b 5),J I (b 6),J I (b 7)] 58)) false (fun _=>0) 58;simpa only [JE] using this) B.out (by first | (simp;done) | (simp;omega))
 have hs1:=B.out.size
 simp only [JE] at hs1
 have HB:Hid _:=Jr (w:=w) (((Jg w _).alloc (by simp) _).alloc (by simp;omega) _) B.out
 obtain ⟨a0,a1,a2,a3,a4,a5,a6,a7,a8⟩:=LA.out.cells
 clear HS SC B
 go_wp2
 obtain ⟨OUT,hOUT⟩:∃ o,o = w1.heap.size:=⟨_,rfl⟩
 rw [<- hOUT] at hs1 ⊢
 have HOUT:Hid _:=hOUT
 clear hOUT
 go_loopw [11,12] (fun cc i wr=>∃ (k:Nat) (d:Nat->Int) (c:Int),k <= 8/\i = J I k/\cc = J I c/\0 <= c/\c <= 1/\Hid (Digs d/\val d k - c * 16777216 ^ k = val a k - val b k)/\Hid (RLies wr w.heap.size s a)/\Hid (RLies wr (w.heap.size + 1) t b)/\Hid (RLies wr (w.heap.size + 1 + 1) false (fun _=>0))/\Hid (RLies wr OUT s d)/\Hid (Below w.heap.size w wr)) (fun _ i _=>8 - (intOf i).toNat)
 case atStart =>
  exact ⟨0,a,0,Nat.zero_le _,rfl,rfl,by omega,by omega,⟨HA.out,by simp [val]⟩,LA.out.alloc _,LB.out.alloc _,LZ.out.alloc _,by show RLies _ _ _ _;rw [HOUT.out];exact J4 w1 s a 58,HB.out.alloc HB.out.size _⟩
 case round =>
  obtain ⟨k,d,c,hk,rfl,rfl,hc0,hc1,HD,HL,HR,HZ,HO,HB⟩:=hrel
  by_cases hlt:k < 8
  ·have e1:=HL.out.dig k hlt
   have e2:=HR.out.dig k hlt
   have e3:=HO.out.dig k hlt
   have e4:=HO.out.free (1 + k) (by omega)
   have i0:(0:Int) <= (k:Int):=by omega
   have i1:(k:Int) < 8:=by omega
   have b1:=HA.out k hlt
   have b2:=HC.out k hlt
   have HN:Hid _:=fun n c' hn=>Jj8 (n:=n) (c':=c') HA.out HC.out HD.out.1 hlt ⟨hc0,hc1⟩ HD.out.2 hn
   obtain ⟨p,hp⟩:∃ p,p = a k:=⟨_,rfl⟩
   obtain ⟨q,hq⟩:∃ q,q = b k:=⟨_,rfl⟩
   rw [<- hp] at e1 b1 HN
   rw [<- hq] at e2 b2 HN
   clear hp hq
   by_cases hneg:p - q - c < 0
   ·have HM:Hid _:=HN.out _ _ (Or.inl ⟨hneg,rfl,rfl⟩)
    clear HN
    go_wp2
    go_region
    all_goals go_wp2
    all_goals go_roundw
    all_goals try (case rel=>obtain ⟨n1,n2,n3,n4⟩:=HM.out;exact ⟨k + 1,put d k (p - q - c + 16777216),1,by omega,by go_num,rfl,n2,n3,⟨n1,n4⟩,(HL.out.otherAt (by omega) _).drew,(HR.out.otherAt (by omega) _).drew,(HZ.out.otherAt (by omega) _).drew,(HO.out.put hlt _).drew,(Jh3 HB.out (by omega) _).drew⟩)
    all_goals try (case measure=>simp [intOf];omega)
   ·have HM:Hid _:=HN.out _ _ (Or.inr ⟨by omega,rfl,rfl⟩)
    clear HN
    go_wp2
    go_region
    all_goals go_wp2
    all_goals go_roundw
    all_goals try (case rel=>obtain ⟨n1,n2,n3,n4⟩:=HM.out;exact ⟨k + 1,put d k (p - q - c),0,by omega,by go_num,rfl,n2,n3,⟨n1,n4⟩,(HL.out.otherAt (by omega) _).drew,(HR.out.otherAt (by omega) _).drew,(HZ.out.otherAt (by omega) _).drew,(HO.out.put hlt _).drew,(Jh3 HB.out (by omega) _).drew⟩)
    all_goals try (case measure=>simp [intOf];omega)
  ·have hk8:8 <= (k:Int):=by omega
   have e8:k = 8:=by omega
   have HE:Hid (Digs d/\sv s d = sv s a + sv t b):=by
    obtain ⟨d1,d2⟩:=HD.out
    rw [e8] at d2
    exact ⟨d1,Jtr HF.out.1 (Jko d1 hc0 d2 HF.out.2)⟩
   obtain ⟨c0,c1,c2,c3,c4,c5,c6,c7,c8⟩:=HO.out.cells
   obtain ⟨r0,r1,r2,r3,r4,r5,r6,r7,r8⟩:=HZ.out.cells
   obtain ⟨f0,f1,f2,f3,f4,f5,f6,f7,f8⟩:=HZ.out.frees
   clear e8 HD HF HA HC
   go_wp2
   try simp only [Exit.inBlock,Exit.then]
   refine bodyPost_ret (by simp [results,results17,go_sem,r0,r1,r2,r3,r4,r5,r6,r7,r8];try rfl) rfl ?_
   exact ⟨_,d,rfl,HE.out,Jay HB.out (by omega)⟩
end
section
open Go.RowKit Ref
theorem Ji4 {W:World} {b:Nat} {s:Bool} {d:Nat->Int}:(((((((((W.setCell ⟨b,0,none⟩ (.bool s)).setCell ⟨b,1,none⟩ (J I (d 0))).setCell ⟨b,2,none⟩ (J I (d 1))).setCell ⟨b,3,none⟩ (J I (d 2))).setCell ⟨b,4,none⟩ (J I (d 3))).setCell ⟨b,5,none⟩ (J I (d 4))).setCell ⟨b,6,none⟩ (J I (d 5))).setCell ⟨b,7,none⟩ (J I (d 6))).setCell ⟨b,8,none⟩ (J I (d 7))).heap.size = W.heap.size:=by simp [World.setCell]
theorem Jso {w w1:World} {s t:Bool} {a b:Nat->Int} (LA:RLies w1 w.heap.size s a) (LB:RLies w1 (w.heap.size + 1) t b) (LZ:RLies w1 (w.heap.size + 1 + 1) false (fun _=>0)) (HB:Below w.heap.size w w1) :
  RLies ((((((((((((((((((((w1.setCell ⟨w.heap.size,0,none⟩ (.bool t)).setCell ⟨w.heap.size,1,none⟩ (J I (b 0))).setCell ⟨w.heap.size,2,none⟩ (J I (b 1))).setCell ⟨w.heap.size,3,none⟩ (J I (b 2))).setCell ⟨w.heap.size,4,none⟩ (J I (b 3))).setCell ⟨w.heap.size,5,none⟩ (J I (b 4))).setCell ⟨w.heap.size,6,none⟩ (J I (b 5))).setCell ⟨w.heap.size,7,none⟩ (J I (b 6))).setCell ⟨w.heap.size,8,none⟩ (J I (b 7))).setCell ⟨(w.heap.size + 1),0,none⟩ (.bool s)).setCell ⟨(w.heap.size + 1),1,none⟩ (J I (a 0))).setCell ⟨(w.heap.size + 1),2,none⟩ (J I (a 1))).setCell ⟨(w.heap.size + 1),3,none⟩ (J I (a 2))).setCell ⟨(w.heap.size + 1),4,none⟩ (J I (a 3))).setCell ⟨(w.heap.size + 1),5,none⟩ (J I (a 4))).setCell ⟨(w.heap.size + 1),6,none⟩ (J I (a 5))).setCell ⟨(w.heap.size + 1),7,none⟩ (J I (a 6))).setCell ⟨(w.heap.size + 1),8,none⟩ (J I (a 7))).alloc (.cells #[.bool s,J I (a 0),J I (a 1),J I (a 2),J I (a 3),J I (a 4),J I (a 5),J I (a 6),J I (a 7)] 58)).alloc (.cells #[.bool t,J I (b 0),J I (b 1),J I (b 2),J I (b 3),J I (b 4),J I (b 5),J I (b 6),J I (b 7)] 58)) w.heap.size t b/\RLies ((((((((((((((((((((w1.setCell ⟨w.heap.size,0,none⟩ (.bool t)).setCell ⟨w.heap.size,1,none⟩ (J I (b 0))).setCell ⟨w.heap.size,2,none⟩ (J I (b 1))).setCell ⟨w.heap.size,3,none⟩ (J I (b 2))).setCell ⟨w.heap.size,4,none⟩ (J I (b 3))).setCell ⟨w.heap.size,5,none⟩ (J I (b 4))).setCell ⟨w.heap.size,6,none⟩ (J I (b 5))).setCell ⟨w.heap.size,7,none⟩ (J I (b 6))).setCell ⟨w.heap.size,8,none⟩ (J I (b 7))).setCell ⟨(w.heap.size + 1),0,none⟩ (.bool s)).setCell ⟨(w.heap.size + 1),1,none⟩ (J I (a 0))).setCell ⟨(w.heap.size + 1),2,none⟩ (J I (a 1))).setCell ⟨(w.heap.size + 1),3,none⟩ (J I (a 2))).setCell ⟨(w.heap.size + 1),4,none⟩ (J I (a 3))).setCell ⟨(w.heap.size + 1),5,none⟩ (J I (a 4))).setCell ⟨(w.heap.size + 1),6,none⟩ (J I (a 5))).setCell ⟨(w.heap.size + 1),7,none⟩ (J I (a 6))).setCell ⟨(w.heap.size + 1),8,none⟩ (J I (a 7))).alloc (.cells #[.bool s,J I (a 0),J I (a 1),J I (a 2),J I (a 3),J I (a 4),J I (a 5),J I (a 6),J I (a 7)] 58)).alloc (.cells #[.bool t,J I (b 0),J I (b 1),J I (b 2),J I (b 3),J I (b 4),J I (b 5),J I (b 6),J I (b 7)] 58)) (w.heap.size + 1) s a/\RLies ((((((((((((((((((((w1.setCell ⟨w.heap.size,0,none⟩ (.bool t)).setCell ⟨w.heap.size,1,none⟩ (J I (b 0))).setCell ⟨w.heap.size,2,none⟩ (J I (b 1))).setCell ⟨w.heap.size,3,none⟩ (J I (b 2))).setCell ⟨w.heap.size,4,none⟩ (J I (b 3))).setCell ⟨w.heap.size,5,none⟩ (J I (b 4))).setCell ⟨w.heap.size,6,none⟩ (J I (b 5))).setCell ⟨w.heap.size,7,none⟩ (J I (b 6))).setCell ⟨w.heap.size,8,none⟩ (J I (b 7))).setCell ⟨(w.heap.size + 1),0,none⟩ (.bool s)).setCell ⟨(w.heap.size + 1),1,none⟩ (J I (a 0))).setCell ⟨(w.heap.size + 1),2,none⟩ (J I (a 1))).setCell ⟨(w.heap.size + 1),3,none⟩ (J I (a 2))).setCell ⟨(w.heap.size + 1),4,none⟩ (J I (a 3))).setCell ⟨(w.heap.size + 1),5,none⟩ (J I (a 4))).setCell ⟨(w.heap.size + 1),6,none⟩ (J I (a 5))).setCell ⟨(w.heap.size + 1),7,none⟩ (J I (a 6))).setCell ⟨(w.heap.size + 1),8,none⟩ (J I (a 7))).alloc (.cells #[.bool s,J I (a 0),J I (a 1),J I (a 2),J I (a 3),J I (a 4),J I (a 5),J I (a 6),J I (a 7)] 58)).alloc (.cells #[.bool t,J I (b 0),J I (b 1),J I (b 2),J I (b 3),J I (b 4),J I (b 5),J I (b 6),J I (b 7)] 58)) (w.heap.size + 1 + 1) false (fun _=>0) /\
  RLies ((((((((((((((((((((w1.setCell ⟨w.heap.size,0,none⟩ (.bool t)).setCell ⟨w.heap.size,1,none⟩ (J I (b 0))).setCell ⟨w.heap.size,2,none⟩ (J I (b 1))).setCell ⟨w.heap.size,3,none⟩ (J I (b 2))).setCell ⟨w.heap.size,4,none⟩ (J I (b 3))).setCell ⟨w.heap.size,5,none⟩ (J I (b 4))).setCell ⟨w.heap.size,6,none⟩ (J I (b 5))).setCell ⟨w.heap.size,7,none⟩ (J I (b 6))).setCell ⟨w.heap.size,8,none⟩ (J I (b 7))).setCell ⟨(w.heap.size + 1),0,none⟩ (.bool s)).setCell ⟨(w.heap.size + 1),1,none⟩ (J I (a 0))).setCell ⟨(w.heap.size + 1),2,none⟩ (J I (a 1))).setCell ⟨(w.heap.size + 1),3,none⟩ (J I (a 2))).setCell ⟨(w.heap.size + 1),4,none⟩ (J I (a 3))).setCell ⟨(w.heap.size + 1),5,none⟩ (J I (a 4))).setCell ⟨(w.heap.size + 1),6,none⟩ (J I (a 5))).setCell ⟨(w.heap.size + 1),7,none⟩ (J I (a 6))).setCell ⟨(w.heap.size + 1),8,none⟩ (J I (a 7))).alloc (.cells #[.bool s,J I (a 0),J I (a 1),J I (a 2),J I (a 3),J I (a 4),J I (a 5),J I (a 6),J I (a 7)] 58)).alloc (.cells #[.bool t,J I (b 0),J I (b 1),J I (b 2),J I (b 3),J I (b 4),J I (b 5),J I (b 6),J I (b 7)] 58)) (w1.heap.size + 1) t b/\Below w.heap.size w ((((((((((((((((((((w1.setCell ⟨w.heap.size,0,none⟩ (.bool t)).setCell ⟨w.heap.size,1,none⟩ (J I (b 0))).setCell ⟨w.heap.size,2,none⟩ (J I (b 1))).setCell ⟨w.heap.size,3,none⟩ (J I (b 2))).setCell ⟨w.heap.size,4,none⟩ (J I (b 3))).setCell ⟨w.heap.size,5,none⟩ (J I (b 4))).setCell ⟨w.heap.size,6,none⟩ (J I (b 5))).setCell ⟨w.heap.size,7,none⟩ (J I (b 6))).setCell ⟨w.heap.size,8,none⟩ (J I (b 7))).setCell ⟨(w.heap.size + 1),0,none⟩ (.bool s)).setCell ⟨(w.heap.size + 1),1,none⟩ (J I (a 0))).setCell ⟨(w.heap.size + 1),2,none⟩ (J I (a 1))).setCell ⟨(w.heap.size + 1),3,none⟩ (J I (a 2))).setCell ⟨(w.heap.size + 1),4,none⟩ (J I (a 3))).setCell ⟨(w.heap.size + 1),5,none⟩ (J I (a 4))).setCell ⟨(w.heap.size + 1),6,none⟩ (J I (a 5))).setCell ⟨(w.heap.size + 1),7,none⟩ (J I (a 6))).setCell ⟨(w.heap.size + 1),8,none⟩ (J I (a 7))).alloc (.cells #[.bool s,J I (a 0),J I (a 1),J I (a 2),J I (a 3),J I (a 4),J I (a 5),J I (a 6),J I (a 7)] 58)).alloc (.cells #[.bool t,J I (b 0),J I (b 1),J I (b 2),J I (b 3),J I (b 4),J I (b 5),J I (b 6),J I (b 7)] 58)):=by
 have hs:((((((((((((((((((w1.setCell ⟨w.heap.size,0,none⟩ (.bool t)).setCell ⟨w.heap.size,1,none⟩ (J I (b 0))).setCell ⟨w.heap.size,2,none⟩ (J I (b 1))).setCell ⟨w.heap.size,3,none⟩ (J I (b 2))).setCell ⟨w.heap.size,4,none⟩ (J I (b 3))).setCell ⟨w.heap.size,5,none⟩ (J I (b 4))).setCell ⟨w.heap.size,6,none⟩ (J I (b 5))).setCell ⟨w.heap.size,7,none⟩ (J I (b 6))).setCell ⟨w.heap.size,8,none⟩ (J I (b 7))).setCell ⟨(w.heap.size + 1),0,none⟩ (.bool s)).setCell ⟨(w.heap.size + 1),1,none⟩ (J I (a 0))).setCell ⟨(w.heap.size + 1),2,none⟩ (J I (a 1))).setCell ⟨(w.heap.size + 1),3,none⟩ (J I (a 2))).setCell ⟨(w.heap.size + 1),4,none⟩ (J I (a 3))).setCell ⟨(w.heap.size + 1),5,none⟩ (J I (a 4))).setCell ⟨(w.heap.size + 1),6,none⟩ (J I (a 5))).setCell ⟨(w.heap.size + 1),7,none⟩ (J I (a 6))).setCell ⟨(w.heap.size + 1),8,none⟩ (J I (a 7))).heap.size = w1.heap.size:=by rw [Ji4,Ji4]
 refine ⟨(((Jf6 LA).nine (by omega)).alloc _).alloc _,((Jf6 (LB.nine (by omega))).alloc _).alloc _,(((LZ.nine (by omega)).nine (by omega)).alloc _).alloc _,?_,?_⟩
 ·have:=J4 (((((((((((((((((((w1.setCell ⟨w.heap.size,0,none⟩ (.bool t)).setCell ⟨w.heap.size,1,none⟩ (J I (b 0))).setCell ⟨w.heap.size,2,none⟩ (J I (b 1))).setCell ⟨w.heap.size,3,none⟩ (J I (b 2))).setCell ⟨w.heap.size,4,none⟩ (J I (b 3))).setCell ⟨w.heap.size,5,none⟩ (J I (b 4))).setCell ⟨w.heap.size,6,none⟩ (J I (b 5))).setCell ⟨w.heap.size,7,none⟩ (J I (b 6))).setCell ⟨w.heap.size,8,none⟩ (J I (b 7))).setCell ⟨(w.heap.size + 1),0,none⟩ (.bool s)).setCell ⟨(w.heap.size + 1),1,none⟩ (J I (a 0))).setCell ⟨(w.heap.size + 1),2,none⟩ (J I (a 1))).setCell ⟨(w.heap.size + 1),3,none⟩ (J I (a 2))).setCell ⟨(w.heap.size + 1),4,none⟩ (J I (a 3))).setCell ⟨(w.heap.size + 1),5,none⟩ (J I (a 4))).setCell ⟨(w.heap.size + 1),6,none⟩ (J I (a 5))).setCell ⟨(w.heap.size + 1),7,none⟩ (J I (a 6))).setCell ⟨(w.heap.size + 1),8,none⟩ (J I (a 7))).alloc (.cells #[.bool s,J I (a 0),J I (a 1),J I (a 2),J I (a 3),J I (a 4),J I (a 5),J I (a 6),J I (a 7)] 58)) t b 58
  rwa [JE,hs] at this
 ·have h1:Below w.heap.size w ((((((((((((((((((w1.setCell ⟨w.heap.size,0,none⟩ (.bool t)).setCell ⟨w.heap.size,1,none⟩ (J I (b 0))).setCell ⟨w.heap.size,2,none⟩ (J I (b 1))).setCell ⟨w.heap.size,3,none⟩ (J I (b 2))).setCell ⟨w.heap.size,4,none⟩ (J I (b 3))).setCell ⟨w.heap.size,5,none⟩ (J I (b 4))).setCell ⟨w.heap.size,6,none⟩ (J I (b 5))).setCell ⟨w.heap.size,7,none⟩ (J I (b 6))).setCell ⟨w.heap.size,8,none⟩ (J I (b 7))).setCell ⟨(w.heap.size + 1),0,none⟩ (.bool s)).setCell ⟨(w.heap.size + 1),1,none⟩ (J I (a 0))).setCell ⟨(w.heap.size + 1),2,none⟩ (J I (a 1))).setCell ⟨(w.heap.size + 1),3,none⟩ (J I (a 2))).setCell ⟨(w.heap.size + 1),4,none⟩ (J I (a 3))).setCell ⟨(w.heap.size + 1),5,none⟩ (J I (a 4))).setCell ⟨(w.heap.size + 1),6,none⟩ (J I (a 5))).setCell ⟨(w.heap.size + 1),7,none⟩ (J I (a 6))).setCell ⟨(w.heap.size + 1),8,none⟩ (J I (a 7))):=Jay (Jay HB (Nat.le_refl _)) (by omega)
  have h2:=h1.size
  exact (h1.alloc h2 _).alloc (by rw [JE];omega) _
theorem Joy (s t:Bool) (a b:Nat->Int) (w:World) (ha:Digs a) (hb:Digs b) (hst:s ≠ t) (hle:val a 8 < val b 8) :
  Calls Tryz.prog 17 #[wv s a,wv t b] w fun e w'=>∃ u d,e = .returned (wv u d)/\Hid (Digs d/\sv u d = sv s a + sv t b)/\Hid (Below w.heap.size w w'):=by
 have HS:Hid _:=fun w=>Jgc s t a b w ha hb
 have HC:Hid _:=ha
 have HA:Hid _:=hb
 have HF:Hid (s ≠ t/\val a 8 < val b 8):=⟨hst,hle⟩
 have hb1:(s == t) = false:=by simp [hst]
 clear ha hb hst hle
 go_enter func17,ntmps17
 go_wp2_with (fail)
 refine (HS.out _).mono ?_
 rintro e w1 ⟨c,rfl,SC,B⟩
 have hc0:c < 0:=by have:=HF.out.2;rcases SC.out with h | h | h <;> omega
 have LA:Hid _:=RLies.below (RLies.alloc (RLies.alloc (by show RLies _ _ _ _;have:=J4 w s a 58;simpa only [JE] using this) _) _) B.out (by first | (simp;done) | (simp;omega))
 have LB:Hid _:=RLies.below (RLies.alloc (by show RLies _ _ _ _;have:=J4 (w.alloc (.cells #[.bool s,J I (a 0),J I (a 1),J I (a 2),J I (a 3),J I (a 4),J I (a 5),J I (a 6),J I (a 7)] 58)) t b 58;simpa only [JE] using this) _) B.out (by first | (simp;done) | (simp;omega))
 have LZ:Hid _:=RLies.below (by show RLies _ _ _ _;have:=J4 ((w.alloc (.cells #[.bool s,J I (a 0),J I (a 1),J I (a 2),J I (a 3),J I (a 4),J I (a 5),J I (a 6),J I (a 7)] 58)).alloc (.cells #[.bool t,J I (b 0),J I (b 1),J I (b 2),J I (b 3),J I (b 4),J I (b 5),J I (b 6),J I (b 7)] 58)) false (fun _=>0) 58;simpa only [JE] using this) B.out (by first | (simp;done) | (simp;omega))
 have hs1:=B.out.size
 simp only [JE] at hs1
 have HB:Hid _:=Jr (w:=w) (((Jg w _).alloc (by simp) _).alloc (by simp;omega) _) B.out
 obtain ⟨a0,a1,a2,a3,a4,a5,a6,a7,a8⟩:=LA.out.cells
 obtain ⟨g0,g1,g2,g3,g4,g5,g6,g7,g8⟩:=LA.out.frees
 obtain ⟨b0,b1,b2,b3,b4,b5,b6,b7,b8⟩:=LB.out.cells
 obtain ⟨h0,h1,h2,h3,h4,h5,h6,h7,h8⟩:=LB.out.frees
 have m0:w.heap.size < w1.heap.size:=by omega
 have m1:w.heap.size + 1 < w1.heap.size:=by omega
 have n0:w.heap.size ≠ w1.heap.size:=by omega
 have n1:w.heap.size + 1 ≠ w1.heap.size:=by omega
 have n2:w1.heap.size ≠ w.heap.size:=by omega
 have n3:w1.heap.size ≠ w.heap.size + 1:=by omega
 clear HS SC B
 go_wp2
 obtain ⟨x1,x2,x3,x4,x5⟩:=Jso LA.out LB.out LZ.out HB.out
 have X1:Hid _:=x1
 have X2:Hid _:=x2
 have X3:Hid _:=x3
 have X4:Hid _:=x4
 have X5:Hid _:=x5
 clear x1 x2 x3 x4 x5 LA LB LZ HB a0 a1 a2 a3 a4 a5 a6 a7 a8 g0 g1 g2 g3 g4 g5 g6 g7 g8 b0 b1 b2 b3 b4 b5 b6 b7 b8 h0 h1 h2 h3 h4 h5 h6 h7 h8
 obtain ⟨OUT,hOUT⟩:∃ o,o = w1.heap.size + 1:=⟨_,rfl⟩
 rw [<- hOUT]
 rw [<- hOUT] at X4
 have hs2:w.heap.size + 3 < OUT:=by omega
 clear hOUT
 go_loopw [11,12] (fun cc i wr=>∃ (k:Nat) (d:Nat->Int) (c:Int),k <= 8/\i = J I k/\cc = J I c/\0 <= c/\c <= 1/\Hid (Digs d/\val d k - c * 16777216 ^ k = val b k - val a k)/\Hid (RLies wr w.heap.size t b)/\Hid (RLies wr (w.heap.size + 1) s a)/\Hid (RLies wr (w.heap.size + 1 + 1) false (fun _=>0))/\Hid (RLies wr OUT t d)/\Hid (Below w.heap.size w wr)) (fun _ i _=>8 - (intOf i).toNat)
 case atStart =>
  exact ⟨0,b,0,Nat.zero_le _,rfl,rfl,by omega,by omega,⟨HA.out,by simp [val]⟩,X1,X2,X3,X4,X5⟩
 case round =>
  obtain ⟨k,d,c,hk,rfl,rfl,hc0,hc1,HD,HL,HR,HZ,HO,HB⟩:=hrel
  by_cases hlt:k < 8
  ·have e1:=HL.out.dig k hlt
   have e2:=HR.out.dig k hlt
   have e3:=HO.out.dig k hlt
   have e4:=HO.out.free (1 + k) (by omega)
   have i0:(0:Int) <= (k:Int):=by omega
   have i1:(k:Int) < 8:=by omega
   have b1:=HA.out k hlt
   have b2:=HC.out k hlt
   have HN:Hid _:=fun n c' hn=>Jj8 (n:=n) (c':=c') HA.out HC.out HD.out.1 hlt ⟨hc0,hc1⟩ HD.out.2 hn
   obtain ⟨p,hp⟩:∃ p,p = b k:=⟨_,rfl⟩
   obtain ⟨q,hq⟩:∃ q,q = a k:=⟨_,rfl⟩
   rw [<- hp] at e1 b1 HN
   rw [<- hq] at e2 b2 HN
   clear hp hq
   by_cases hneg:p - q - c < 0
   ·have HM:Hid _:=HN.out _ _ (Or.inl ⟨hneg,rfl,rfl⟩)
    clear HN
    go_wp2
    go_region
    all_goals go_wp2
    all_goals go_roundw
    all_goals try (case rel=>obtain ⟨n1,n2,n3,n4⟩:=HM.out;exact ⟨k + 1,put d k (p - q - c + 16777216),1,by omega,by go_num,rfl,n2,n3,⟨n1,n4⟩,(HL.out.otherAt (by omega) _).drew,(HR.out.otherAt (by omega) _).drew,(HZ.out.otherAt (by omega) _).drew,(HO.out.put hlt _).drew,(Jh3 HB.out (by omega) _).drew⟩)
    all_goals try (case measure=>simp [intOf];omega)
   ·have HM:Hid _:=HN.out _ _ (Or.inr ⟨by omega,rfl,rfl⟩)
    clear HN
    go_wp2
    go_region
    all_goals go_wp2
    all_goals go_roundw
    all_goals try (case rel=>obtain ⟨n1,n2,n3,n4⟩:=HM.out;exact ⟨k + 1,put d k (p - q - c),0,by omega,by go_num,rfl,n2,n3,⟨n1,n4⟩,(HL.out.otherAt (by omega) _).drew,(HR.out.otherAt (by omega) _).drew,(HZ.out.otherAt (by omega) _).drew,(HO.out.put hlt _).drew,(Jh3 HB.out (by omega) _).drew⟩)
    all_goals try (case measure=>simp [intOf];omega)
  ·have hk8:8 <= (k:Int):=by omega
   have e8:k = 8:=by omega
   have HE:Hid (Digs d/\sv t d = sv s a + sv t b):=by
    obtain ⟨d1,d2⟩:=HD.out
    rw [e8] at d2
    exact ⟨d1,Jss HF.out.1 (Jko d1 hc0 d2 (Int.le_of_lt HF.out.2))⟩
   obtain ⟨c0,c1,c2,c3,c4,c5,c6,c7,c8⟩:=HO.out.cells
   obtain ⟨r0,r1,r2,r3,r4,r5,r6,r7,r8⟩:=HZ.out.cells
   obtain ⟨f0,f1,f2,f3,f4,f5,f6,f7,f8⟩:=HZ.out.frees
   clear e8 HD HF HA HC
   go_wp2
   try simp only [Exit.inBlock,Exit.then]
   refine bodyPost_ret (by simp [results,results17,go_sem,r0,r1,r2,r3,r4,r5,r6,r7,r8];try rfl) rfl ?_
   exact ⟨_,d,rfl,HE.out,Jay HB.out (by omega)⟩
theorem Jdl (s t:Bool) (a b:Nat->Int) (w:World) (ha:Digs a) (hb:Digs b) (hfit:(sv s a + sv t b).natAbs < 6277101735386680763835789423207666416102355444464034512896) :
  Calls Tryz.prog 17 #[wv s a,wv t b] w fun e w'=>∃ u d,e = .returned (wv u d)/\Hid (Digs d/\sv u d = sv s a + sv t b)/\Hid (Below w.heap.size w w'):=by
 by_cases hst:s = t
 ·subst hst;exact Jo7 s a b w ha hb hfit
 ·by_cases hle:val b 8 <= val a 8
  ·exact Jlq s t a b w ha hb hst hle
  ·exact Joy s t a b w ha hb hst (by omega)
theorem Jg5 (t:Bool) (b:Nat->Int):sv (!t) b = -sv t b:=by unfold sv;cases t <;> simp
theorem Je1 (s t:Bool) (a b:Nat->Int) (w:World) (ha:Digs a) (hb:Digs b) (hfit:(sv s a - sv t b).natAbs < 6277101735386680763835789423207666416102355444464034512896) :
  Calls Tryz.prog 20 #[wv s a,wv t b] w fun e w'=>∃ c,e = .returned (.bool c)/\Hid (c = true ↔ sv s a < sv t b)/\Hid (Below w.heap.size w w'):=by
 have HP:Hid _:=fun w=>Jdl s (!t) a b w ha hb (by rw [Jg5];exact hfit)
 clear ha hb hfit
 go_enter func20,ntmps20
 go_wp2_with (fail)
 refine (HP.out _).mono ?_
 rintro e w1 ⟨u,d,rfl,SC,B⟩
 have HS:Hid _:=fun w=>Jrf u d w SC.out.1
 have HB:Hid _:=Jr (w:=w) ((Jg w _).alloc (by simp) _) B.out
 clear B HP
 go_wp2_with (fail)
 refine (HS.out _).mono ?_
 rintro e w2 ⟨c,rfl,SD,B⟩
 have HB2:Hid _:=Jr HB.out B.out
 clear B HS HB
 go_wp2_with (fail)
 go_ret
 refine ⟨_,rfl,?_,HB2.out⟩
 have h1:=SD.out.2.2
 have h2:=SC.out.2
 rw [Jg5] at h2
 show _ ↔ _
 simp only [decide_eq_true_eq]
 omega
end
section
open Go.RowKit Ref
theorem Jhk (d:Nat->Int) (n:Nat):val d (n + 1) = val d n + d n * 16777216 ^ n:=rfl
theorem Jer (b:Nat->Int) (n:Nat):∀ m,val b (n + m) = val b n + 16777216 ^ n * val (fun j=>b (n + j)) m
 | 0=>by simp [val]
 | m + 1=>by
  rw [<- Nat.add_assoc]
  simp only [val]
  rw [Jer b n m,Int.pow_add]
  grind
theorem Jnj {a b d:Nat->Int} {k:Nat} (h:∃ m:Int,val d 8 + m * 16777216 ^ 8 = val a k * val b 8) (hz:a k = 0):∃ m:Int,val d 8 + m * 16777216 ^ 8 = val a (k + 1) * val b 8:=by
 obtain ⟨m,h⟩:=h
 exact ⟨m,by rw [Jhk a k,hz,Int.zero_mul,Int.add_zero];exact h⟩
theorem Jnm {b d e:Nat->Int} {k j:Nat} {x c y o:Int} (hb:0 <= y/\y < 16777216) (hx:0 <= x/\x < 16777216) (ho:0 <= o/\o < 16777216) (he:Digs e) (hkj:k + j < 8) (hc:0 <= c/\c < 16777216) (ey:y = b j) (eo:o = e (k + j))
  (h:val e 8 + c * 16777216 ^ (k + j) = val d 8 + x * val b j * 16777216 ^ k) :
  Digs (put e (k + j) ((o + x * y + c) % 16777216))/\0 <= (o + x * y + c) / 16777216/\(o + x * y + c) / 16777216 < 16777216 /\
  val (put e (k + j) ((o + x * y + c) % 16777216)) 8 + (o + x * y + c) / 16777216 * 16777216 ^ (k + (j + 1)) = val d 8 + x * val b (j + 1) * 16777216 ^ k:=by
 have hp0:0 <= x * y:=Int.mul_nonneg hx.1 hb.1
 have hp1:x * y <= 16777215 * 16777215:=Int.mul_le_mul (by omega) (by omega) hb.1 (by omega)
 refine ⟨he.put _ ⟨Int.emod_nonneg _ (by omega),Int.emod_lt_of_pos _ (by omega)⟩,by omega,by omega,?_⟩
 rw [Jns _ _ _ 8 hkj,<- eo,<- Nat.add_assoc,Int.pow_succ]
 have:=Jqy (o:=o) (x:=x) (y:=y) h
 rw [this,Jhk b j,<- ey,Int.pow_add]
 generalize val d 8 = D8 at *
 grind
theorem Jlb {a b d e:Nat->Int} {k j:Nat} {c:Int} (h:∃ m:Int,val d 8 + m * 16777216 ^ 8 = val a k * val b 8) (hj:k + j = 8)
  (hi:val e 8 + c * 16777216 ^ (k + j) = val d 8 + a k * val b j * 16777216 ^ k):∃ m:Int,val e 8 + m * 16777216 ^ 8 = val a (k + 1) * val b 8:=by
 obtain ⟨m,h⟩:=h
 have hs:=Jer b j k
 rw [Nat.add_comm j k,hj] at hs
 have hp:(16777216:Int) ^ 8 = 16777216 ^ j * 16777216 ^ k:=by rw [<- Int.pow_add,Nat.add_comm j k,hj]
 rw [hj] at hi
 refine ⟨c + m + a k * val (fun i=>b (j + i)) k,?_⟩
 rw [Jhk a k]
 rw [hp] at h hi ⊢
 clear hp
 generalize val (fun i=>b (j + i)) k = R at *
 generalize val b 8 = B8 at *
 generalize val d 8 = D8 at *
 generalize val e 8 = E8 at *
 generalize (16777216:Int) ^ j = X at *
 generalize (16777216:Int) ^ k = Y at *
 grind
theorem Jl8 {a b d:Nat->Int} {s t:Bool} (ha:Digs a) (hb:Digs b) (hd:Digs d) (h:∃ m:Int,val d 8 + m * 16777216 ^ 8 = val a 8 * val b 8) (hfit:(sv s a * sv t b).natAbs < 6277101735386680763835789423207666416102355444464034512896) :
  sv (s != t) d = sv s a * sv t b:=by
 obtain ⟨m,h⟩:=h
 have h1:(16777216:Int) ^ 8 = 6277101735386680763835789423207666416102355444464034512896:=by decide
 rw [h1] at h
 have d0:=hd.nonneg
 have d1:=hd.lt
 have hp:0 <= val a 8 * val b 8:=Int.mul_nonneg ha.nonneg hb.nonneg
 have e:(sv s a * sv t b).natAbs = (val a 8 * val b 8).natAbs:=by unfold sv;cases s <;> cases t <;> simp [Int.natAbs_mul]
 rw [e] at hfit
 have hv:val d 8 = val a 8 * val b 8:=by omega
 unfold sv
 rw [hv]
 cases s <;> cases t <;> simp [Int.neg_mul,Int.mul_neg]
theorem RLies.sign {W:World} {b:Nat} {s:Bool} {d:Nat->Int} (h:RLies W b s d) (t:Bool):RLies (W.setCell ⟨b,0,none⟩ (.bool t)) b t d:=by
 have hn:=h.neg
 refine ⟨by simp [go_sem,hn],fun k hk=>?_,fun k hk=>?_⟩
 ·rw [<- h.dig k hk];simp [go_sem]
 ·rw [<- h.free k hk];simp [go_sem]
theorem Jb6 (s t:Bool) (a b:Nat->Int) (w:World) (ha:Digs a) (hb:Digs b) (hfit:(sv s a * sv t b).natAbs < 6277101735386680763835789423207666416102355444464034512896) :
  Calls Tryz.prog 62 #[wv s a,wv t b] w fun e w'=>∃ u d,e = .returned (wv u d)/\Hid (Digs d/\sv u d = sv s a * sv t b)/\Hid (Below w.heap.size w w'):=by
 have HE:Hid _:=fun d (hd:Digs d) h=>Jl8 (s:=s) (t:=t) ha hb hd h hfit
 have HA:Hid _:=ha
 have HC:Hid _:=hb
 clear ha hb hfit
 go_enter func62,ntmps62
 go_wp2
 go_loopw [6] (fun i wr=>∃ (k:Nat) (d:Nat->Int),k <= 8/\i = J I k/\Hid (Digs d/\∃ m:Int,val d 8 + m * 16777216 ^ 8 = val a k * val b 8)/\Hid (RLies wr w.heap.size s a)/\Hid (RLies wr (w.heap.size + 1) t b)/\Hid (RLies wr (w.heap.size + 1 + 1) false (fun _=>0))/\Hid (RLies wr (w.heap.size + 1 + 1 + 1) false d)/\Hid (Below w.heap.size w wr)) (fun i _=>8 - (intOf i).toNat)
 case atStart =>
  exact ⟨0,fun _=>0,Nat.zero_le _,rfl,⟨fun j _=>by simp,0,by simp [val]⟩,(RLies.alloc (RLies.alloc (RLies.alloc (by show RLies _ _ _ _;have:=J4 w s a 58;simpa only [JE] using this) _) _) _),(RLies.alloc (RLies.alloc (by show RLies _ _ _ _;have:=J4 (w.alloc (.cells #[.bool s,J I (a 0),J I (a 1),J I (a 2),J I (a 3),J I (a 4),J I (a 5),J I (a 6),J I (a 7)] 58)) t b 58;simpa only [JE] using this) _) _),(RLies.alloc (by show RLies _ _ _ _;have:=J4 ((w.alloc (.cells #[.bool s,J I (a 0),J I (a 1),J I (a 2),J I (a 3),J I (a 4),J I (a 5),J I (a 6),J I (a 7)] 58)).alloc (.cells #[.bool t,J I (b 0),J I (b 1),J I (b 2),J I (b 3),J I (b 4),J I (b 5),J I (b 6),J I (b 7)] 58)) false (fun _=>0) 58;simpa only [JE] using this) _),(by show RLies _ _ _ _;have:=J4 (((w.alloc (.cells #[.bool s,J I (a 0),J I (a 1),J I (a 2),J I (a 3),J I (a 4),J I (a 5),J I (a 6),J I (a 7)] 58)).alloc (.cells #[.bool t,J I (b 0),J I (b 1),J I (b 2),J I (b 3),J I (b 4),J I (b 5),J I (b 6),J I (b 7)] 58)).alloc (.cells #[.bool false,J I 0,J I 0,J I 0,J I 0,J I 0,J I 0,J I 0,J I 0] 58)) false (fun _=>0) 58;simpa only [JE] using this),((((Jg w _).alloc (by simp) _).alloc (by simp;omega) _).alloc (by simp;omega) _)⟩
 case round =>
  obtain ⟨k,d,hk,rfl,HD,HL,HR,HZ,HO,HB⟩:=hrel
  by_cases hlt:k < 8
  ·have e1:=HL.out.dig k hlt
   have i0:(0:Int) <= (k:Int):=by omega
   have i1:(k:Int) < 8:=by omega
   have b1:=HA.out k hlt
   obtain ⟨x,hx⟩:∃ x,x = a k:=⟨_,rfl⟩
   rw [<- hx] at e1 b1
   by_cases hz:x = 0
   ·have HM:Hid _:=Jnj HD.out.2 (by rw [<- hx,hz])
    clear hx
    go_wp2
    go_roundw
    case rel=>exact ⟨k + 1,d,by omega,by go_num,⟨HD.out.1,HM.out⟩,HL.out,HR.out,HZ.out,HO.out,HB.out⟩
    case measure=>simp [intOf];omega
   ·have HX:Hid _:=hx
    clear hx
    go_wp2
    go_loopw [7,8] (fun cc i wr=>∃ (j:Nat) (e:Nat->Int) (c:Int),k + j <= 8/\i = J I j/\cc = J I c/\0 <= c/\c < 16777216/\Hid (Digs e/\val e 8 + c * 16777216 ^ (k + j) = val d 8 + x * val b j * 16777216 ^ k)/\Hid (RLies wr w.heap.size s a)/\Hid (RLies wr (w.heap.size + 1) t b)/\Hid (RLies wr (w.heap.size + 1 + 1) false (fun _=>0))/\Hid (RLies wr (w.heap.size + 1 + 1 + 1) false e)/\Hid (Below w.heap.size w wr)) (fun _ i _=>8 - (intOf i).toNat)
    case atStart=>exact ⟨0,d,0,by omega,rfl,rfl,by omega,by omega,⟨HD.out.1,by simp [val]⟩,HL.out,HR.out,HZ.out,HO.out,HB.out⟩
    case round =>
     clear HL HR HZ HO HB e1
     obtain ⟨j,e,c,hj,rfl,rfl,hc0,hc1,HI,HL,HR,HZ,HO,HB⟩:=hrel
     by_cases hjl:k + j < 8
     ·have e1:=HL.out.dig k hlt
      rw [<- HX.out] at e1
      have e2:=HR.out.dig j (by omega)
      have e3:=HO.out.dig (k + j) hjl
      have e4:=HO.out.free (1 + (k + j)) (by omega)
      have j0:(0:Int) <= (j:Int):=by omega
      have j1:(j:Int) < 8:=by omega
      have k0:(0:Int) <= (k:Int) + (j:Int):=by omega
      have k1:(k:Int) + (j:Int) < 8:=by omega
      have b2:=HC.out j (by omega)
      have b3:=HI.out.1 (k + j) hjl
      obtain ⟨y,hy⟩:∃ y,y = b j:=⟨_,rfl⟩
      obtain ⟨o,ho⟩:∃ o,o = e (k + j):=⟨_,rfl⟩
      rw [<- hy] at e2 b2
      rw [<- ho] at e3 b3
      have HN:Hid _:=Jnm b2 b1 b3 HI.out.1 hjl ⟨hc0,hc1⟩ hy ho HI.out.2
      have hp0:0 <= x * y:=Int.mul_nonneg b1.1 b2.1
      have hp1:x * y <= 16777215 * 16777215:=Int.mul_le_mul (by omega) (by omega) b2.1 (by omega)
      clear hy ho
      go_wp2
      go_region
      all_goals go_wp2
      all_goals go_roundw
      all_goals try (case rel=>obtain ⟨n1,n2,n3,n4⟩:=HN.out;exact ⟨j + 1,put e (k + j) ((o + x * y + c) % 16777216),(o + x * y + c) / 16777216,by omega,by go_num,rfl,n2,n3,⟨n1,n4⟩,(HL.out.otherAt (by omega) _).drew,(HR.out.otherAt (by omega) _).drew,(HZ.out.otherAt (by omega) _).drew,(HO.out.put hjl _).drew,(Jh3 HB.out (by omega) _).drew⟩)
      all_goals try (case measure=>simp [intOf];omega)
     ·have k8:¬ (k:Int) + (j:Int) < 8:=by omega
      have HM:Hid _:=Jlb (e:=e) (c:=c) HD.out.2 (by omega:k + j = 8) (by rw [<- HX.out];exact HI.out.2)
      go_wp2
      go_roundw
      case rel=>exact ⟨k + 1,e,by omega,by go_num,⟨HI.out.1,HM.out⟩,HL.out,HR.out,HZ.out,HO.out,HB.out⟩
      case measure=>simp [intOf];omega
  ·have k8:8 <= (k:Int):=by omega
   have HV:Hid (Digs d/\sv (s != t) d = sv s a * sv t b):=by
    obtain ⟨d1,d2⟩:=HD.out
    rw [(by omega:k = 8)] at d2
    exact ⟨d1,HE.out d d1 d2⟩
   have HO':Hid _:=HO.out.sign (s != t)
   obtain ⟨q0,q1,q2,q3,q4,q5,q6,q7,q8⟩:=HO.out.cells
   have y0:=HO.out.free 0 (by omega)
   obtain ⟨r0,r1,r2,r3,r4,r5,r6,r7,r8⟩:=HZ.out.cells
   obtain ⟨f0,f1,f2,f3,f4,f5,f6,f7,f8⟩:=HZ.out.frees
   have z0:=HL.out.neg
   have z1:=HR.out.neg
   clear HD HA HC HE
   go_wp2
   try simp only [Exit.inBlock,Exit.then]
   refine bodyPost_ret (by simp [results,results62,go_sem,r0,r1,r2,r3,r4,r5,r6,r7,r8];try rfl) rfl ?_
   exact ⟨_,d,rfl,HV.out,Jay (Jh3 HB.out (by omega) _) (by omega)⟩
end
end Go.Proofs.YteebbpioffdncaaGreat
