/- Plain mathematics of layer 9: long directions, sizes, gaps, candidates. No program in sight. -/
import Derived.Test.YtablgiflakncfaaGreatBBW1
import Derived.Test.YtablgiflakncfaaGreatBBW0
import Derived.RowKit
import Derived.Test.YtablgiflakncfaaGreatBBW5
import Derived.Test.YtablgiflakncfaaGreatBBW4
import Derived.Test.YtablgiflakncfaaGreatProg
import Derived.WalkKit
import Derived.Orders
import Derived.Below
import Derived.Laws.Rows
import Derived.Test.YtablgiflakncfaaGreatBBW3
import Derived.Test.YtablgiflakncfaaGreatBBW2
import Derived.RangeFuncNested
import Derived.RangeFuncBound
import Derived.RangeFuncCalls
import Derived.RangeFuncLeaves
import Derived.RangeFuncBox
import Derived.Shelf.Abstract
import Derived.OwnWalkIn
import Derived.TacticsInMore
import Derived.LoopNIn
import Derived.LoopIn
import Derived.LoopTactic
import Derived.ProofKit
import Derived.Handy
import Derived.Laws.MakeOwn
import Derived.Laws.OwnMore
import Derived.Maps.AppendAt
import Derived.Deep.RegionWith
import Derived.Deep.QuietTactic
import Derived.BigQuiet
import Derived.Deep.CutBlock
import Derived.Deep.CutRange
import Derived.Deep.LoopGhost
import Derived.Lib.SmallJoins
import Derived.Scope
import Derived.OrdersIn
import Derived.Sort.CutIn
import Derived.OneCell
import Derived.WalkMore
import Derived.Lib.BufferMore
import Derived.Test.YtablgiflakncfaaGreatBBW10
import Derived.Test.YtablgiflakncfaaGreatBBW9
import Derived.Test.YtablgiflakncfaaGreatBBW6
import Derived.Test.YtablgiflakncfaaGreatBBW8
import Derived.Test.YtablgiflakncfaaGreatBBW7
import Derived.Laws.MathBits
import Derived.Laws.Externs
import Derived.Laws.BitsAllLaws
import Derived.WalkLawsBesides
import Derived.Lib.AppendZeros
import Derived.Test.YtablgiflakncfaaGreatBBW11
import Derived.Test.YtablgiflakncfaaGreatBBW12
import Derived.Test.YtablgiflakncfaaGreatBBW13
set_option maxHeartbeats 4000000
set_option maxRecDepth 100000
set_option linter.unusedVariables false
namespace Go.Proofs.YtablgiflakncfaaGreat
section
open Fx (isq isq_is isq_of)
theorem loK_le (n:Pt) (P:List Pt):∀ k i,i <= k->loK n P k <= n.dot (pt P i)
 | 0,i,h=>by
  obtain rfl:i = 0:=by omega
  exact Int.le_refl _
 | k + 1,i,h=>by
  simp only [loK]
  by_cases e:i = k + 1
  ·subst e;omega
  ·have:=loK_le n P k i (by omega);omega
theorem hiK_ge (n:Pt) (P:List Pt):∀ k i,i <= k->n.dot (pt P i) <= hiK n P k
 | 0,i,h=>by
  obtain rfl:i = 0:=by omega
  exact Int.le_refl _
 | k + 1,i,h=>by
  simp only [hiK]
  by_cases e:i = k + 1
  ·subst e;omega
  ·have:=hiK_ge n P k i (by omega);omega
end
section
theorem keep_len (L:List Pt):(keepD L).length <= 128:=by unfold keepD;rw [List.length_take];omega
theorem keep_mem {L:List Pt} {p:Pt} (h:p ∈ keepD L):p ∈ L:=(List.mem_filter.1 (List.mem_of_mem_take h)).1
theorem mov_between {p w:Pt} {k m:Int} (hk:0 <= k/\k <= 16) (h0:p.inB m = true) (h1:(p.mov w).inB m = true):(p.mov (wayBy w k)).inB m = true:=by
 rw [Pt.inB_iff] at *
 unfold Pt.mov wayBy at *
 dsimp only at *
 have hx:=part_between (x:=w.x) hk
 have hy:=part_between (x:=w.y) hk
 have hz:=part_between (x:=w.z) hk
 omega
theorem wayBy_full (w:Pt):wayBy w 16 = w:=by
 unfold wayBy
 have h:∀ x:Int,(x * 16).tdiv 16 = x:=fun x=>Int.mul_tdiv_cancel x (by decide)
 rw [h,h,h]
theorem trail_may {a:Cr} {w:Pt} (h:goB a w = true) {k:Int} (hk:0 <= k/\k <= 16):mayC (trailC a w k) = (a.P.map (·.mov (wayBy w k))).all (·.inB 16777216):=by
 obtain ⟨h1,h2,h3,h4,h5,h6⟩:=go_parts h
 have e:trailC a w k = ⟨a.P ++ a.P.map (·.mov (wayBy w k)),keepD (a.A ++ a.E.map (fun e=>(e.cross w.short).short)),keepD (a.E ++ [w.short]),a.r⟩:=by unfold trailC;rw [h,decide_eq_true hk];rfl
 rw [e]
 unfold mayC at h1 ⊢
 dsimp only
 rw [Bool.eq_iff_iff]
 simp only [Bool.and_eq_true,decide_eq_true_eq,List.all_eq_true,List.length_append,List.length_map] at h1 ⊢
 refine ⟨fun g p hp=>g.1.1.1.2 p (List.mem_append_right _ hp),fun g=>⟨⟨⟨⟨by omega,fun p hp=>?_⟩,⟨keep_len _,fun p hp=>?_⟩⟩,⟨keep_len _,fun p hp=>?_⟩⟩,h1.2⟩⟩
 ·rcases List.mem_append.1 hp with hp | hp
  ·exact h4 p hp
  ·exact g p hp
 ·rcases List.mem_append.1 (keep_mem hp) with hp | hp
  ·exact h5 p hp
  ·obtain ⟨e,_,rfl⟩:=List.mem_map.1 hp
   exact short_in _
 ·rcases List.mem_append.1 (keep_mem hp) with hp | hp
  ·exact h6 p hp
  ·rw [List.mem_singleton.1 hp]
   exact short_in _
theorem trail_of {a b:Cr} {w:Pt} (h:castB a w b = true) {k:Int} (hk:0 <= k/\k <= 16):mayC (trailC a w k) = true:=by
 unfold castB at h
 simp only [Bool.and_eq_true] at h
 rw [trail_may h.1.1 hk,List.all_eq_true]
 intro p hp
 obtain ⟨q,hq,rfl⟩:=List.mem_map.1 hp
 exact mov_between hk ((go_parts h.1.1).2.2.2.1 q hq) (List.all_eq_true.1 h.1.2 _ (List.mem_map.2 ⟨q,hq,rfl⟩))
theorem cast_parts {a b:Cr} {w:Pt} (h:castB a w b = true):goB a w = true/\mayC a = true/\mayC b = true:=by
 unfold castB at h
 simp only [Bool.and_eq_true] at h
 exact ⟨h.1.1,(go_parts h.1.1).1,h.2⟩
theorem castF_le (a:Cr) (w:Pt) (b:Cr):∀ n k x,k <= (castF a w b n k x).1/\(castF a w b n k x).1 <= k + n
 | 0,k,x=>by simp [castF]
 | n + 1,k,x=>by
  unfold castF
  split
  ·simp
  ·have:=castF_le a w b n (k + 1) (apP (trailC a w (k + 1)) b)
   omega
theorem castF_gap (a:Cr) (w:Pt) (b:Cr):∀ n k x,0 <= x.2->0 <= (castF a w b n k x).2.2
 | 0,k,x,h=>by simpa [castF] using h
 | n + 1,k,x,h=>by
  unfold castF
  split
  ·exact h
  ·exact castF_gap a w b n (k + 1) _ (by omega)
theorem castF_is (a:Cr) (w:Pt) (b:Cr):∀ n k x,(castF a w b n k x).2 = x/\(castF a w b n k x).1 = k \/ (castF a w b n k x).2 = apP (trailC a w ((castF a w b n k x).1:Nat)) b/\k < (castF a w b n k x).1
 | 0,k,x=>Or.inl (by simp [castF])
 | n + 1,k,x=>by
  unfold castF
  split
  ·exact Or.inl ⟨rfl,rfl⟩
  ·rcases castF_is a w b n (k + 1) (apP (trailC a w (k + 1)) b) with ⟨h1,h2⟩ | ⟨h1,h2⟩
   ·refine Or.inr ⟨?_,by omega⟩
    rw [h1,h2]
    congr 1
   ·exact Or.inr ⟨h1,by omega⟩
end
section
open Go.RowKit Go.Shelf
section
variable {T:Type} (tell:Cr->Option T) (lt:T->T->Bool) (L:List Cr)
end
theorem cast16 (a:Cr) (w:Pt) (b:Cr):(castR a w b).1 <= 16:=by
 unfold castR
 split
 ·split
  ·simp
  ·have:=(castF_le a w b 16 0 (apP a b)).2
   omega
 ·simp
end
section
open Go.RowKit Go.Shelf
theorem nminus_any (p q:Pt) (w:World) (hp:p.inB 1152921504606846976 = true) (hq:q.inB 1152921504606846976 = true) :
  Calls Tryz.prog 18 #[p.v,q.v] w fun e W=>e = .returned (p.sub q).v/\Below w.heap.size w W:=by
 obtain ⟨x,y,z⟩:=p
 obtain ⟨x',y',z'⟩:=q
 rw [Pt.inB_iff] at hp hq
 unfold Pt.v Pt.sub
 dsimp only at *
 go_enter Tryz.func18,Tryz.ntmps18
 go_wp2
 exact bodyPost_ret (v:=.agg #[.int .i64 (x - x'),.int .i64 (y - y'),.int .i64 (z - z')]) (by simp [results,Tryz.results18,go_sem]) rfl ⟨rfl,(((Below.refl _ w).alloc (Nat.le_refl _) _).alloc (by simp) _).alloc (by simp;omega) _⟩
theorem nrdot_any (p q:Pt) (w:World) (hp:p.inB 536870912 = true) (hq:q.inB 536870912 = true) :
  Calls Tryz.prog 17 #[p.v,q.v] w fun e W=>e = .returned (.int .i64 (p.dot q))/\Below w.heap.size w W:=by
 obtain ⟨x,y,z⟩:=p
 obtain ⟨x',y',z'⟩:=q
 rw [Pt.inB_iff] at hp hq
 unfold Pt.v Pt.dot
 dsimp only at *
 have h1:=prod_in hp.1 hq.1 (by decide)
 have h2:=prod_in hp.2.1 hq.2.1 (by decide)
 have h3:=prod_in hp.2.2 hq.2.2 (by decide)
 clear hp hq
 go_enter Tryz.func17,Tryz.ntmps17
 go_wp2
 go_ret
 exact ⟨rfl,((Below.refl _ w).alloc (Nat.le_refl _) _).alloc (by simp) _⟩
end
section
open Go.RowKit Go.Shelf
theorem rin9_any (p:Pt) (m:Int) (w:World) (hm:0 <= m/\m <= 4611686018427387903) :
  Calls Tryz.prog 40 #[p.v,.int .i64 m] w fun e W=>e = .returned (.bool (p.inB m))/\Below w.heap.size w W:=by
 have HI:Hid (p.inB m = decide ((-m <= p.x/\p.x <= m)/\(-m <= p.y/\p.y <= m)/\(-m <= p.z/\p.z <= m))):=rfl
 obtain ⟨R9,hR9⟩:∃ R9,p.inB m = R9:=⟨_,rfl⟩
 rw [hR9] at HI ⊢
 clear hR9
 obtain ⟨x,y,z⟩:=p
 unfold Pt.v
 dsimp only at *
 obtain ⟨mm,hmm⟩:∃ mm,IntKind.i64.wrap (-m) = mm:=⟨_,rfl⟩
 have hm9:mm = -m:=by rw [<- hmm,IntKind.wrap_i64];omega
 rw [<- hm9] at HI
 have HM:Hid _:=hm
 clear hm9 hm
 by_cases h1:mm <= x
 ·by_cases h2:x <= m
  ·by_cases h3:mm <= y
   ·by_cases h4:y <= m
    ·by_cases h5:mm <= z
     ·by_cases h6:z <= m
      ·have e9:R9 = true:=by rw [HI.out];simp [h1,h2,h3,h4,h5,h6]
       subst e9
       go_enter Tryz.func40,Tryz.ntmps40
       go_wp2
       go_ret
       exact ⟨rfl,n_after _ _⟩
      ·have e9:R9 = false:=by rw [HI.out];simp [h6]
       subst e9
       go_enter Tryz.func40,Tryz.ntmps40
       go_wp2
       go_ret
       exact ⟨rfl,n_after _ _⟩
     ·have e9:R9 = false:=by rw [HI.out];simp [h5]
      subst e9
      go_enter Tryz.func40,Tryz.ntmps40
      go_wp2
      go_ret
      exact ⟨rfl,n_after _ _⟩
    ·have e9:R9 = false:=by rw [HI.out];simp [h4]
     subst e9
     go_enter Tryz.func40,Tryz.ntmps40
     go_wp2
     go_ret
     exact ⟨rfl,n_after _ _⟩
   ·have e9:R9 = false:=by rw [HI.out];simp [h3]
    subst e9
    go_enter Tryz.func40,Tryz.ntmps40
    go_wp2
    go_ret
    exact ⟨rfl,n_after _ _⟩
  ·have e9:R9 = false:=by rw [HI.out];simp [h2]
   subst e9
   go_enter Tryz.func40,Tryz.ntmps40
   go_wp2
   go_ret
   exact ⟨rfl,n_after _ _⟩
 ·have e9:R9 = false:=by rw [HI.out];simp [h1]
  subst e9
  go_enter Tryz.func40,Tryz.ntmps40
  go_wp2
  go_ret
  exact ⟨rfl,n_after _ _⟩
theorem rall9_any (Ls:List Pt) (m:Int) (v:Value) (w:World) (hv:Lies w v Ls) (hm:0 <= m) (hm':m <= 1152921504606846976) :
  Calls Tryz.prog 60 #[v,.int .i64 m] w fun e W=>e = .returned (.bool (Ls.all (·.inB m)))/\Below w.heap.size w W:=by
 obtain ⟨o,cap,rfl,hlc,hcm,hcell⟩:=hv.form
 have HC:Hid _:=hcell
 have HW:Hid _:=fun (p:Pt) (w':World)=>rin9_any p m w' ⟨hm,by omega⟩
 clear hv hcell
 go_enter Tryz.func60,Tryz.ntmps60
 go_wp2_with (fail)
 go_loopg [5] Ls.length (fun gm s wr=>∃ i:Nat,s = .int .i64 (i:Int)/\i <= Ls.length/\gm = Ls.length - i/\Hid (∀ p ∈ Ls.take i,p.inB m = true)/\Hid (Below w.heap.size w wr))
 case atStart=>exact ⟨0,rfl,Nat.zero_le _,rfl,by simp [Hid],Below.refl _ _⟩
 case round =>
  obtain ⟨i,rfl,hi,hgm,HT,HB⟩:=hrel
  have HG1:Hid _:=hgm
  clear hgm
  by_cases hit:i < Ls.length
  ·obtain ⟨g,f,rfl,x0,x1,x2⟩:=HC.out i hit
   have y0:=c_after HB.out x0
   have y1:=c_after HB.out x1
   have y2:=c_after HB.out x2
   have HWp:Hid _:=fun w'=>HW.out (pt Ls i) w'
   have HTK:Hid (Ls.take (i + 1) = Ls.take i ++ [pt Ls i]):=take_pt hit
   have HM:Hid (pt Ls i ∈ Ls):=pt_mem hit
   generalize pt Ls i = q at *
   obtain ⟨qx,qy,qz⟩:=q
   unfold Pt.v at HWp
   dsimp only at *
   clear x0 x1 x2 HC HW
   go_wp2_with (fail)
   refine Calls.mono (HWp.out _) ?_
   rintro e V ⟨rfl,hb⟩
   have HB2:Hid _:=b_step HB.out hb
   clear hb y0 y1 y2
   cases hin:Pt.inB ⟨qx,qy,qz⟩ m with
   | true =>
    have HIN:Hid _:=hin
    clear hin
    go_wp2_with (fail)
    go_roundg (Ls.length - (i + 1))
    case rel =>
     refine ⟨i + 1,by simp,by omega,rfl,fun p hp=>?_,HB2⟩
     rw [HTK.out,List.mem_append] at hp
     rcases hp with hp | hp
     ·exact HT.out p hp
     ·rw [List.mem_singleton.1 hp];exact HIN.out
    case measure=>have:=HG1.out;omega
   | false =>
    have HAL:Hid (Ls.all (·.inB m) = false):=by
     show _ = _
     rw [List.all_eq_false]
     exact ⟨_,HM.out,by rw [hin];decide⟩
    clear hin
    go_wp2_with (fail)
    go_ret
    exact ⟨by rw [HAL.out];rfl,HB2.out⟩
  ·obtain rfl:i = Ls.length:=by omega
   have HAL:Hid (Ls.all (·.inB m) = true):=by
    show _ = _
    rw [List.all_eq_true]
    intro p hp
    exact HT.out p (by rw [List.take_length];exact hp)
   go_wp2_with (fail)
   go_ret
   exact ⟨by rw [HAL.out];rfl,HB.out⟩
end
section
open Go.RowKit Go.Shelf
theorem rsizes9_any (n:Pt) (w:World) :
  Calls Tryz.prog 16 #[n.v] w fun e W=>e = .returned (.tuple #[.int .i64 (dnT n),.int .i64 (upT n)])/\Below w.heap.size w W:=by
 have HW:Hid _:=fun w'=>rin9_any n 16777216 w' (by decide)
 have HD:Hid _:=fun w' (h:n.inB 16777216 = true)=>nrdot_any n n w' (inB_mono h (by decide)) (inB_mono h (by decide))
 cases hin:n.inB 16777216 with
 | true =>
  obtain ⟨q0,q1⟩:=dot_rng hin
  have HT1:Hid (dnT n = dn n):=by show _ = _;simp [dnT,hin]
  have HT2:Hid (upT n = if dn n * dn n = n.dot n then dn n else dn n + 1):=by show _ = _;simp [upT,up,hin]
  have HDO:Hid (∀ r:Int,0 <= r->r * r <= n.dot n->n.dot n < (r + 1) * (r + 1)->r = dn n):=fun r h1 h2 h3=>dn_of h1 h2 h3
  have HW1:Hid _:=fun w'=>HW.out w'
  simp only [hin] at HW1
  have HD1:Hid _:=fun w'=>HD.out w' hin
  clear hin HW HD
  generalize dn n = d at *
  generalize n.dot n = q at *
  obtain ⟨x,y,z⟩:=n
  unfold Pt.v at *
  dsimp only at *
  go_enter Tryz.func16,Tryz.ntmps16
  go_wp2_with (fail)
  refine Calls.mono (HW1.out _) ?_
  rintro e V ⟨rfl,hb⟩
  have B3:Hid _:=(Box3.new w x y z 45).step hb
  have hB:Hid _:=b_step (n_after w _) hb
  clear hb
  obtain ⟨c0,c1,c2,_,_,_⟩:=B3.out
  go_wp2_with (fail)
  refine Calls.mono (HD1.out _) ?_
  rintro e V2 ⟨rfl,hb⟩
  have hB:Hid _:=b_step hB.out hb
  clear hb c0 c1 c2 B3 HD1 HW1
  go_wp2_with (fail)
  go_loopg [6,7] 67108864 (fun gm s6 s7 wr=>∃ lo hi:Int,s6 = .int .i64 lo/\s7 = .int .i64 hi/\wr = V2/\0 <= lo/\lo < hi/\hi <= 67108864/\Hid (gm = (hi - lo).toNat)/\Hid (lo * lo <= q)/\Hid (q < hi * hi))
  case atStart=>exact ⟨0,67108864,rfl,rfl,rfl,by omega,by omega,by omega,by show _ = _;omega,by show _ <= _;omega,by show _ < _;omega⟩
  case round =>
   obtain ⟨lo,hi,rfl,rfl,rfl,h0,h1,h2,HG,HL,HH⟩:=hrel
   obtain ⟨k,hk⟩:∃ k,hi - lo = k:=⟨_,rfl⟩
   have hkw:IntKind.i64.wrap (hi - lo) = k:=by rw [hk,IntKind.wrap_i64];omega
   have HK:Hid _:=hk
   clear hk
   by_cases hgt:1 < k
   ·obtain ⟨sm,hsm⟩:∃ k,lo + hi = k:=⟨_,rfl⟩
    have hsw:IntKind.i64.wrap (lo + hi) = sm:=by rw [hsm,IntKind.wrap_i64];omega
    obtain ⟨mid,hmid⟩:∃ c,sm.tdiv 2 = c:=⟨_,rfl⟩
    have hm9:lo < mid/\mid < hi:=by
     have:=Int.tdiv_eq_ediv_of_nonneg (a:=sm) (b:=2) (by omega)
     have:=HK.out
     omega
    have hcw:wrap64 mid = mid:=w64 (by omega) (by omega)
    have hmm:=mul_in (a:=mid) (b:=mid) (A:=67108864) (B:=67108864) (by omega) (by omega)
    obtain ⟨sq,hsq⟩:∃ c,mid * mid = c:=⟨_,rfl⟩
    have hqw:IntKind.i64.wrap (mid * mid) = sq:=by rw [hsq,IntKind.wrap_i64];omega
    have HSQ:Hid _:=hsq
    have HM9:Hid _:=hm9
    clear hsm hsq hmm hm9
    by_cases hle:sq <= q
    ·have HQ2:Hid (mid * mid <= q):=by show _ <= _;rw [HSQ.out];exact hle
     go_wp2_with (fail)
     go_roundg ((hi - mid).toNat)
     case rel=>have:=HM9.out;exact ⟨mid,hi,(by first | rfl | rw [hcw]),rfl,rfl,by omega,by omega,by omega,rfl,HQ2,HH⟩
     case measure=>have:=HM9.out;have:=HG.out;omega
    ·have HQ2:Hid (q < mid * mid):=by show _ < _;rw [HSQ.out];omega
     go_wp2_with (fail)
     go_roundg ((mid - lo).toNat)
     case rel=>have:=HM9.out;exact ⟨lo,mid,rfl,(by first | rfl | rw [hcw]),rfl,by omega,by omega,by omega,rfl,HL,HQ2⟩
     case measure=>have:=HM9.out;have:=HG.out;omega
   ·have e9:hi = lo + 1:=by have:=HK.out;omega
    have ed:lo = d:=HDO.out lo h0 HL.out (by have:=HH.out;rw [e9] at this;exact this)
    subst ed
    have hmm:=mul_in (a:=lo) (b:=lo) (A:=67108864) (B:=67108864) (by omega) (by omega)
    obtain ⟨sq,hsq⟩:∃ sq,lo * lo = sq:=⟨_,rfl⟩
    have hsw:IntKind.i64.wrap (lo * lo) = sq:=by rw [hsq,IntKind.wrap_i64];omega
    rw [hsq] at HT2
    clear hmm hsq HDO HL HH HG HK e9
    by_cases he:sq = q
    ·rw [if_pos he] at HT2
     go_wp2_with (fail)
     exact bodyPost_ret (v:=.tuple #[.int .i64 lo,.int .i64 lo]) (by simp [results,Tryz.results16,go_sem]) rfl ⟨by rw [HT1.out,HT2.out],hB.out⟩
    ·rw [if_neg he] at HT2
     have hw1:IntKind.i64.wrap (lo + 1) = lo + 1:=by rw [IntKind.wrap_i64];omega
     go_wp2_with (fail)
     exact bodyPost_ret (v:=.tuple #[.int .i64 lo,.int .i64 (lo + 1)]) (by simp [results,Tryz.results16,go_sem]) rfl ⟨by rw [HT1.out,HT2.out],hB.out⟩
 | false =>
  have HT1:Hid (dnT n = 0):=by show _ = _;simp [dnT,hin]
  have HT2:Hid (upT n = 0):=by show _ = _;simp [upT,hin]
  have HW1:Hid _:=fun w'=>HW.out w'
  simp only [hin] at HW1
  clear hin HD HW
  obtain ⟨x,y,z⟩:=n
  unfold Pt.v at *
  dsimp only at *
  go_enter Tryz.func16,Tryz.ntmps16
  go_wp2_with (fail)
  refine Calls.mono (HW1.out _) ?_
  rintro e V ⟨rfl,hb⟩
  have hB:Hid _:=b_step (n_after w _) hb
  clear hb
  go_wp2_with (fail)
  exact bodyPost_ret (v:=.tuple #[.int .i64 0,.int .i64 0]) (by simp [results,Tryz.results16,go_sem]) rfl ⟨by rw [HT1.out,HT2.out],hB.out⟩
end
section
open Go.RowKit Go.Shelf
theorem may_no {c:Cr} (h:c.P.length < 1 \/ 32 < c.P.length \/ 128 < c.A.length \/ 128 < c.E.length \/ c.r < 0 \/ 65536 < c.r):mayC c = false:=by
 cases hm:mayC c with
 | false=>rfl
 | true =>
  unfold mayC at hm
  simp only [Bool.and_eq_true,decide_eq_true_eq] at hm
  omega
theorem may_yes {c:Cr} (h1:1 <= c.P.length/\c.P.length <= 32) (h2:c.A.length <= 128) (h3:c.E.length <= 128) (h4:0 <= c.r/\c.r <= 65536):mayC c = (c.P.all (·.inB 16777216) && (c.A.all (·.inB 1048576) && c.E.all (·.inB 1048576))):=by
 unfold mayC
 rw [decide_eq_true h1,decide_eq_true h2,decide_eq_true h3,decide_eq_true h4]
 generalize c.P.all (·.inB 16777216) = a
 generalize c.A.all (·.inB 1048576) = b
 generalize c.E.all (·.inB 1048576) = d
 cases a <;> cases b <;> cases d <;> rfl
theorem rmay9_any (c:Cr) (pv av ev:Value) (w0:World) (hp:Lies w0 pv c.P) (ha:Lies w0 av c.A) (he:Lies w0 ev c.E) :
  Calls Tryz.prog 32 #[coreA pv av ev c.r] w0 fun e W=>e = .returned (.bool (mayC c))/\Below w0.heap.size w0 W:=by
 have HN:Hid _:=fun h=>may_no (c:=c) h
 have HY:Hid _:=fun h1 h2 h3 h4=>may_yes (c:=c) h1 h2 h3 h4
 obtain ⟨R9,hR9⟩:∃ R,mayC c = R:=⟨_,rfl⟩
 rw [hR9] at HN HY ⊢
 clear hR9
 obtain ⟨P,A,E,r⟩:=c
 dsimp only at *
 obtain ⟨o,cap,rfl,hlc,hcm,_⟩:=hp.form
 obtain ⟨o2,cap2,rfl,_,_,_⟩:=ha.form
 obtain ⟨o3,cap3,rfl,_,_,_⟩:=he.form
 have H2:Hid _:=fun (w':World) (h:Below w0.heap.size w0 w')=>rall9_any P 16777216 _ w' (hp.below h) (by decide) (by decide)
 have H3:Hid _:=fun (w':World) (h:Below w0.heap.size w0 w')=>rall9_any A 1048576 _ w' (ha.below h) (by decide) (by decide)
 have H4:Hid _:=fun (w':World) (h:Below w0.heap.size w0 w')=>rall9_any E 1048576 _ w' (he.below h) (by decide) (by decide)
 clear hp ha he hlc hcm
 generalize P.all (·.inB 16777216) = k2 at *
 generalize A.all (·.inB 1048576) = k3 at *
 generalize E.all (·.inB 1048576) = k4 at *
 unfold coreA at *
 go_enter Tryz.func32,Tryz.ntmps32
 obtain ⟨V,hV⟩:∃ V,V = w0.alloc (.cells #[.slice o P.length cap,.slice o2 A.length cap2,.slice o3 E.length cap3,.int .i64 r] 28):=⟨_,rfl⟩
 obtain ⟨cb,hcb⟩:∃ b,b = w0.heap.size:=⟨_,rfl⟩
 have HB:Hid (Below w0.heap.size w0 V):=by show Below _ _ _;rw [hV];exact n_after _ _
 have HC:Hid _:=Cells4.new w0 (.slice o P.length cap) (.slice o2 A.length cap2) (.slice o3 E.length cap3) r 28
 rw [<- hV,<- hcb] at HC
 go_upto_region 1 with fail
 rw [<- hV,<- hcb]
 clear hV hcb
 obtain ⟨q0,q1,q2,q3⟩:=HC.out
 by_cases c0:(P.length:Int) < 1
 ·have e9:R9 = false:=HN.out (by omega)
  subst e9
  go_wp2_with (fail)
  go_ret
  exact ⟨rfl,HB.out⟩
 ·skip
  by_cases c1:(32:Int) < P.length
  ·have e9:R9 = false:=HN.out (by omega)
   subst e9
   go_wp2_with (fail)
   go_ret
   exact ⟨rfl,HB.out⟩
  ·skip
   by_cases c2:(128:Int) < A.length
   ·have e9:R9 = false:=HN.out (by omega)
    subst e9
    go_wp2_with (fail)
    go_ret
    exact ⟨rfl,HB.out⟩
   ·skip
    by_cases c3:(128:Int) < E.length
    ·have e9:R9 = false:=HN.out (by omega)
     subst e9
     go_wp2_with (fail)
     go_ret
     exact ⟨rfl,HB.out⟩
    ·skip
     by_cases c4:r < 0
     ·have e9:R9 = false:=HN.out (by omega)
      subst e9
      go_wp2_with (fail)
      go_ret
      exact ⟨rfl,HB.out⟩
     ·skip
      by_cases c5:65536 < r
      ·have e9:R9 = false:=HN.out (by omega)
       subst e9
       go_wp2_with (fail)
       go_ret
       exact ⟨rfl,HB.out⟩
      ·have e9:Hid _:=HY.out (by omega) (by omega) (by omega) (by omega)
       clear HN HY
       go_wp2_with (fail)
       refine Calls.mono (H2.out _ HB.out) ?_
       rintro e V2 ⟨rfl,hb⟩
       have q1:=c_after hb q1
       have q2:=c_after hb q2
       have HB:Hid _:=b_step HB.out hb
       clear hb q0 q3
       go_wp2_with (fail)
       refine Calls.mono (H3.out _ HB.out) ?_
       rintro e V3 ⟨rfl,hb⟩
       have q2:=c_after hb q2
       have HB:Hid _:=b_step HB.out hb
       clear hb q1
       go_wp2_with (fail)
       refine Calls.mono (H4.out _ HB.out) ?_
       rintro e V4 ⟨rfl,hb⟩
       have HB:Hid _:=b_step HB.out hb
       clear hb q2
       cases k2 with
       | false =>
        go_wp2_with (fail)
        go_ret
        exact ⟨by rw [e9.out];rfl,HB.out⟩
       | true =>
        cases k3 with
        | false =>
         go_wp2_with (fail)
         go_ret
         exact ⟨by rw [e9.out];rfl,HB.out⟩
        | true =>
         go_wp2_with (fail)
         go_ret
         exact ⟨by rw [e9.out];rfl,HB.out⟩
end
section
open Go.RowKit Go.Shelf
def sg (i:Nat) (x:Int):Int:=if i = 0 then -x else x
end
section
theorem best_mem (g:Pt->Int):∀ (L:List Pt) (s:Bs) (A:List Pt),(s = none \/ ∃ m ∈ A,s = some (m,g m))->bestL g s L = none \/ ∃ n,(n ∈ A \/ n ∈ L)/\bestL g s L = some (n,g n)
 | [],s,A,h=>by
  rcases h with rfl | ⟨m,hm,rfl⟩
  ·exact Or.inl rfl
  ·exact Or.inr ⟨m,Or.inl hm,rfl⟩
 | p :: r,s,A,h=>by
  have hs:bestS g s p = none \/ ∃ m ∈ p :: A,bestS g s p = some (m,g m):=by
   rcases h with rfl | ⟨m,hm,rfl⟩
   ·exact Or.inr ⟨p,List.mem_cons_self,rfl⟩
   ·unfold bestS
    dsimp only
    split
    ·exact Or.inr ⟨p,List.mem_cons_self,rfl⟩
    ·exact Or.inr ⟨m,List.mem_cons_of_mem _ hm,rfl⟩
  rcases best_mem g r (bestS g s p) (p :: A) hs with h | ⟨n,hn,h⟩
  ·exact Or.inl h
  ·refine Or.inr ⟨n,?_,h⟩
   rcases hn with hn | hn
   ·rcases List.mem_cons.1 hn with rfl | hn
    ·exact Or.inr List.mem_cons_self
    ·exact Or.inl hn
   ·exact Or.inr (List.mem_cons_of_mem _ hn)
theorem dot_minus (n q p:Pt):n.dot (q.sub p) = n.dot q - n.dot p:=by
 unfold Pt.dot Pt.sub
 dsimp only
 simp only [Int.mul_sub]
 omega
theorem dot_mov (n q p w:Pt):n.dot (q.sub (p.mov w)) = n.dot (q.sub p) - n.dot w:=by
 unfold Pt.dot Pt.sub Pt.mov
 dsimp only
 simp only [Int.mul_sub,Int.mul_add]
 omega
theorem at_of_mem {P:List Pt} {p:Pt} (h:p ∈ P):∃ i,i < P.length/\pt P i = p:=by
 obtain ⟨i,hi,e⟩:=List.getElem_of_mem h
 exact ⟨i,hi,by unfold pt;rw [List.getElem?_eq_getElem hi,e];rfl⟩
theorem room_le {n p q:Pt} {P Q:List Pt} (hp:p ∈ P) (hq:q ∈ Q):room n P Q <= n.dot (q.sub p):=by
 obtain ⟨i,hi,rfl⟩:=at_of_mem hp
 obtain ⟨j,hj,rfl⟩:=at_of_mem hq
 have h1:=loK_le n Q (Q.length - 1) j (by omega)
 have h2:=hiK_ge n P (P.length - 1) i (by omega)
 rw [dot_minus]
 unfold room loP hiP
 omega
theorem up_dn (n:Pt):dn n <= up n:=by unfold up;split <;> omega
theorem told_sound {a b:Cr} (hr:1 <= a.r + b.r) (hg:0 <= (told a b).2) {p q:Pt} (hp:p ∈ a.P) (hq:q ∈ b.P):((told a b).2 + a.r + b.r) * dn (told a b).1 <= (told a b).1.dot (q.sub p):=by
 rcases best_mem (gapZ a.P b.P a.r b.r) (both (candL a b)) none [] (Or.inl rfl) with h | ⟨n,hn,h⟩
 ·have e:told a b = (⟨0,0,1048576⟩,-a.r - b.r):=by unfold told;rw [h]
  rw [e] at hg
  dsimp only at hg
  omega
 ·have e:told a b = (n,gapZ a.P b.P a.r b.r n):=told_of h
  have hn:n ∈ both (candL a b):=by rcases hn with hn | hn;cases hn;exact hn
  have hl:=(both_long _ n hn).2
  rw [e] at hg ⊢
  dsimp only at hg ⊢
  have hR:=room_le (n:=n) hp hq
  have hz:gapZ a.P b.P a.r b.r n + a.r + b.r = gap0 n a.P b.P:=by unfold gapZ;omega
  rw [hz]
  have h0:1 <= gap0 n a.P b.P:=by omega
  refine Int.le_trans ?_ hR
  unfold gap0 at h0 ⊢
  by_cases hp0:0 <= room n a.P b.P
  ·rw [if_pos hp0] at h0 ⊢
   have hu:=up_dn n
   have hu0:0 < up n:=by omega
   rw [Int.tdiv_eq_ediv_of_nonneg hp0] at h0 ⊢
   have k1:=Int.ediv_mul_le (room n a.P b.P) (b:=up n) (by omega)
   have k2:=Int.mul_le_mul_of_nonneg_left (c:=room n a.P b.P / up n) hu (by omega)
   omega
  ·rw [if_neg hp0] at h0
   have:1 <= (dn n - 1 - room n a.P b.P).tdiv (dn n):=by
    rw [Int.tdiv_eq_ediv_of_nonneg (by omega)]
    exact (Int.le_ediv_iff_mul_le (by omega)).2 (by omega)
   omega
theorem cast_free {a b:Cr} {w:Pt} (hc:castB a w b = true) (hr:1 <= a.r + b.r) (hg:0 <= (castR a w b).2.2) {p q:Pt} (hp:p ∈ a.P) (hq:q ∈ b.P) {m:Int} (hm:0 <= m/\m <= 1024) :
  1024 * (((castR a w b).2.2 + a.r + b.r) * dn (castR a w b).2.1) <= 1024 * (castR a w b).2.1.dot (q.sub p) - m * (castR a w b).2.1.dot (wayBy w (castR a w b).1):=by
 obtain ⟨hgo,hma,hmb⟩:=cast_parts hc
 have hng:¬ (apP a b).2 < 0:=fun h=>by
  have:castR a w b = (0,apP a b):=by unfold castR;rw [if_pos hc,if_pos h]
  rw [this] at hg
  dsimp only at hg
  omega
 have eR:castR a w b = castF a w b 16 0 (apP a b):=by unfold castR;rw [if_pos hc,if_neg hng]
 have h16:=cast16 a w b
 rcases castF_is a w b 16 0 (apP a b) with ⟨h1,h2⟩ | ⟨h1,h2⟩
 ·rw [<- eR] at h1 h2
  have e:apP a b = told a b:=by unfold apP;rw [hma,hmb];rfl
  rw [h1,e] at hg ⊢
  rw [h2]
  have hw:wayBy w ((0:Nat):Int) = ⟨0,0,0⟩:=by unfold wayBy;simp
  rw [hw]
  have hd:∀ n:Pt,n.dot ⟨0,0,0⟩ = 0:=fun n=>by unfold Pt.dot;simp
  rw [hd]
  have:=told_sound hr hg hp hq
  omega
 ·rw [<- eR] at h1 h2
  obtain ⟨k,hk⟩:∃ k,(castR a w b).1 = k:=⟨_,rfl⟩
  rw [hk] at h1 h2 h16 ⊢
  have hkk:(0:Int) <= (k:Int)/\(k:Int) <= 16:=by omega
  have hmt:=trail_of hc hkk
  have e:apP (trailC a w (k:Nat)) b = told (trailC a w (k:Nat)) b:=by unfold apP;rw [hmt,hmb];rfl
  have et:=trail_yes hgo hkk
  rw [h1,e] at hg ⊢
  have hr2:(trailC a w (k:Nat)).r = a.r:=by rw [et]
  have p1:p ∈ (trailC a w (k:Nat)).P:=by rw [et];exact List.mem_append_left _ hp
  have p2:p.mov (wayBy w (k:Nat)) ∈ (trailC a w (k:Nat)).P:=by rw [et];exact List.mem_append_right _ (List.mem_map.2 ⟨p,hp,rfl⟩)
  have s1:=told_sound (by rw [hr2];exact hr) hg p1 hq
  have s2:=told_sound (by rw [hr2];exact hr) hg p2 hq
  rw [dot_mov] at s2
  rw [hr2] at s1 s2
  generalize ((told (trailC a w (k:Nat)) b).2 + a.r + b.r) * dn (told (trailC a w (k:Nat)) b).1 = G at *
  generalize (told (trailC a w (k:Nat)) b).1.dot (q.sub p) = D at *
  generalize (told (trailC a w (k:Nat)) b).1.dot (wayBy w (k:Nat)) = E at *
  have t1:=Int.mul_nonneg (a:=1024 - m) (b:=D - G) (by omega) (by omega)
  have t2:=Int.mul_nonneg (a:=m) (b:=D - E - G) (by omega) (by omega)
  simp only [Int.sub_mul,Int.mul_sub] at t1 t2
  omega
end
section
theorem told_n {a b:Cr} (hr:1 <= a.r + b.r) (hg:0 <= (told a b).2):(told a b).1.inB 1048576 = true/\524288 <= dn (told a b).1:=by
 rcases best_mem (gapZ a.P b.P a.r b.r) (both (candL a b)) none [] (Or.inl rfl) with h | ⟨n,hn,h⟩
 ·have e:told a b = (⟨0,0,1048576⟩,-a.r - b.r):=by unfold told;rw [h]
  rw [e] at hg
  dsimp only at hg
  omega
 ·have e:told a b = (n,gapZ a.P b.P a.r b.r n):=told_of h
  have hn:n ∈ both (candL a b):=by rcases hn with hn | hn;cases hn;exact hn
  rw [e]
  exact both_long _ n hn
theorem cast_n {a b:Cr} {w:Pt} (hc:castB a w b = true) (hr:1 <= a.r + b.r) (hg:0 <= (castR a w b).2.2):(castR a w b).2.1.inB 1048576 = true/\524288 <= dn (castR a w b).2.1:=by
 obtain ⟨hgo,hma,hmb⟩:=cast_parts hc
 have hng:¬ (apP a b).2 < 0:=fun h=>by
  have:castR a w b = (0,apP a b):=by unfold castR;rw [if_pos hc,if_pos h]
  rw [this] at hg
  dsimp only at hg
  omega
 have eR:castR a w b = castF a w b 16 0 (apP a b):=by unfold castR;rw [if_pos hc,if_neg hng]
 have h16:=cast16 a w b
 rcases castF_is a w b 16 0 (apP a b) with ⟨h1,h2⟩ | ⟨h1,h2⟩
 ·rw [<- eR] at h1 h2
  have e:apP a b = told a b:=by unfold apP;rw [hma,hmb];rfl
  rw [h1,e] at hg ⊢
  exact told_n hr hg
 ·rw [<- eR] at h1 h2
  obtain ⟨k,hk⟩:∃ k,(castR a w b).1 = k:=⟨_,rfl⟩
  rw [hk] at h1 h2 h16
  have hkk:(0:Int) <= (k:Int)/\(k:Int) <= 16:=by omega
  have hmt:=trail_of hc hkk
  have e:apP (trailC a w (k:Nat)) b = told (trailC a w (k:Nat)) b:=by unfold apP;rw [hmt,hmb];rfl
  have et:=trail_yes hgo hkk
  have hr2:(trailC a w (k:Nat)).r = a.r:=by rw [et]
  rw [h1,e] at hg ⊢
  exact told_n (by rw [hr2];exact hr) hg
theorem dn_le {n:Pt} (h:n.inB 1048576 = true):0 <= dn n/\dn n <= 2097152:=by
 rw [Pt.inB_iff] at h
 have hs:∀ x:Int,-1048576 <= x/\x <= 1048576->x * x <= 1099511627776:=fun x hx=>by
  have:=mul_in hx hx
  omega
 have h1:=hs n.x (by omega)
 have h2:=hs n.y (by omega)
 have h3:=hs n.z (by omega)
 have hd:n.dot n <= 3298534883328:=by unfold Pt.dot;omega
 have h0:=dot_self n
 unfold dn
 refine ⟨by omega,?_⟩
 have hq:=(Fx.isq_is (n.dot n).toNat).1
 have hle:(Fx.isq (n.dot n).toNat) < 2097153:=by
  refine Nat.lt_of_not_le fun h9=>?_
  have:=Nat.mul_le_mul h9 h9
  omega
 omega
theorem dot_in3 {n p:Pt} {C:Int} (hn:n.inB 1048576 = true) (hp:p.inB C = true) (hC:0 <= C):-(3145728 * C) <= n.dot p/\n.dot p <= 3145728 * C:=by
 rw [Pt.inB_iff] at hn hp
 have key:∀ x y:Int,-1048576 <= x/\x <= 1048576->-C <= y/\y <= C->-(1048576 * C) <= x * y/\x * y <= 1048576 * C:=fun x y hx hy=>by
  have t1:=Int.mul_nonneg (a:=1048576 - x) (b:=C - y) (by omega) (by omega)
  have t2:=Int.mul_nonneg (a:=1048576 - x) (b:=C + y) (by omega) (by omega)
  have t3:=Int.mul_nonneg (a:=1048576 + x) (b:=C - y) (by omega) (by omega)
  have t4:=Int.mul_nonneg (a:=1048576 + x) (b:=C + y) (by omega) (by omega)
  simp only [Int.sub_mul,Int.mul_sub,Int.add_mul,Int.mul_add] at t1 t2 t3 t4
  omega
 have h1:=key n.x p.x (by omega) (by omega)
 have h2:=key n.y p.y (by omega) (by omega)
 have h3:=key n.z p.z (by omega) (by omega)
 unfold Pt.dot
 omega
end
section
theorem hold_min {a:Cr} {w:Pt} {L:List Cr}:∀ {n i:Nat},i < n->holdP a w (cr L i) = true->holdK a w L n <= (castR a w (cr L i)).1
 | n + 1,i,hi,h=>by
  by_cases e:i = n
  ·subst e
   unfold holdK
   rw [if_pos h]
   omega
  ·have:=hold_min (n:=n) (by omega) h
   unfold holdK
   split <;> omega
theorem hold_16 {a:Cr} {w:Pt} {L:List Cr} {n i:Nat} (h:holdK a w L n = 16) (hi:i < n) (hp:holdP a w (cr L i) = true):(castR a w (cr L i)).1 = 16:=by
 have:=hold_min hi hp
 have:=cast16 a w (cr L i)
 omega
theorem gone16 {f t k:Int} (hk:0 <= k/\k <= 16):-15 <= 16 * ((f + (t - f) * k / 16) / 1048576 - f / 1048576) - k * (t / 1048576 - f / 1048576)/\16 * ((f + (t - f) * k / 16) / 1048576 - f / 1048576) - k * (t / 1048576 - f / 1048576) <= 15:=by
 obtain ⟨g,hg⟩:∃ g,g = f + (t - f) * k / 16:=⟨_,rfl⟩
 rw [<- hg]
 obtain ⟨G,hG⟩:∃ G,G = g / 1048576:=⟨_,rfl⟩
 obtain ⟨F,hF⟩:∃ F,F = f / 1048576:=⟨_,rfl⟩
 obtain ⟨T,hT⟩:∃ T,T = t / 1048576:=⟨_,rfl⟩
 rw [<- hG,<- hF,<- hT]
 have e:(t - f) * k = 1048576 * (k * (T - F)) + k * (t - 1048576 * T) - k * (f - 1048576 * F):=by
  simp only [Int.sub_mul,Int.mul_sub]
  have e1:=Int.mul_comm t k
  have e2:=Int.mul_comm f k
  have e3:k * (1048576 * T) = 1048576 * (k * T):=by rw [Int.mul_left_comm]
  have e4:k * (1048576 * F) = 1048576 * (k * F):=by rw [Int.mul_left_comm]
  omega
 have p1:=Int.mul_nonneg (a:=k) (b:=t - 1048576 * T) hk.1 (by omega)
 have p2:=Int.mul_nonneg (a:=k) (b:=1048575 - (t - 1048576 * T)) hk.1 (by omega)
 have p3:=Int.mul_nonneg (a:=16 - k) (b:=f - 1048576 * F) (by omega) (by omega)
 have p4:=Int.mul_nonneg (a:=16 - k) (b:=1048575 - (f - 1048576 * F)) (by omega) (by omega)
 simp only [Int.sub_mul] at p3 p4
 rw [Int.mul_sub] at p2
 rw [Int.mul_sub k 1048575 (f - 1048576 * F)] at p4
 generalize k * (t - 1048576 * T) = A at *
 generalize k * (f - 1048576 * F) = B at *
 generalize k * (T - F) = D at *
 omega
theorem gone_by {w d k m:Int} (hk:0 <= k/\k <= m) (h:-15 <= 16 * d - k * w/\16 * d - k * w <= 15):-(30 * m) <= 16 * m * d - 16 * k * (w * m).tdiv 16/\16 * m * d - 16 * k * (w * m).tdiv 16 <= 30 * m:=by
 obtain ⟨b,hb⟩:∃ b,b = (w * m).tdiv 16:=⟨_,rfl⟩
 have hr:-15 <= w * m - 16 * b/\w * m - 16 * b <= 15:=by
  rw [hb]
  by_cases h0:0 <= w * m
  ·rw [Int.tdiv_eq_ediv_of_nonneg h0];omega
  ·have e:(w * m).tdiv 16 = -((-(w * m)).tdiv 16):=by rw [Int.neg_tdiv];omega
   rw [e,Int.tdiv_eq_ediv_of_nonneg (by omega)];omega
 rw [<- hb]
 have p1:=Int.mul_nonneg (a:=m) (b:=15 - (16 * d - k * w)) (by omega) (by omega)
 have p2:=Int.mul_nonneg (a:=m) (b:=15 + (16 * d - k * w)) (by omega) (by omega)
 have p3:=Int.mul_nonneg (a:=k) (b:=15 - (w * m - 16 * b)) (by omega) (by omega)
 have p4:=Int.mul_nonneg (a:=k) (b:=15 + (w * m - 16 * b)) (by omega) (by omega)
 have e1:m * (15 - (16 * d - k * w)) = 15 * m - 16 * m * d + k * (w * m):=by grind
 have e2:m * (15 + (16 * d - k * w)) = 15 * m + 16 * m * d - k * (w * m):=by grind
 have e3:k * (15 - (w * m - 16 * b)) = 15 * k - k * (w * m) + 16 * k * b:=by grind
 have e4:k * (15 + (w * m - 16 * b)) = 15 * k + k * (w * m) - 16 * k * b:=by grind
 rw [e1] at p1
 rw [e2] at p2
 rw [e3] at p3
 rw [e4] at p4
 omega
theorem up_sq (n:Pt):n.dot n <= up n * up n/\0 <= up n:=by
 have h0:=dot_self n
 have h1:=(Fx.isq_is (n.dot n).toNat)
 have hd:0 <= dn n:=by unfold dn;omega
 have h2:dn n * dn n <= n.dot n/\n.dot n < (dn n + 1) * (dn n + 1):=by
  unfold dn
  have a:=h1.1
  have b:=h1.2
  constructor
  ·have:((Fx.isq (n.dot n).toNat * Fx.isq (n.dot n).toNat:Nat):Int) <= ((n.dot n).toNat:Int):=by exact_mod_cast a
   rw [Int.natCast_mul] at this
   omega
  ·have:((n.dot n).toNat:Int) < (((Fx.isq (n.dot n).toNat + 1) * (Fx.isq (n.dot n).toNat + 1):Nat):Int):=by exact_mod_cast b
   push_cast at this
   omega
 unfold up
 split
 ·next e=>rw [e];exact ⟨Int.le_refl _,hd⟩
 ·exact ⟨by omega,by omega⟩
theorem sum_up {n:Pt} {x y z c:Int} (hx:-x <= n.x/\n.x <= x/\x * x = n.x * n.x) (hy:-y <= n.y/\n.y <= y/\y * y = n.y * n.y) (hz:-z <= n.z/\n.z <= z/\z * z = n.z * n.z) (hc:n.dot n <= c * c) (h0:0 <= c):30 * (x + y + z) <= 64 * c:=by
 refine Int.not_lt.1 fun hl=>?_
 have e:3 * (x * x + y * y + z * z) = (x + y + z) * (x + y + z) + (x - y) * (x - y) + (y - z) * (y - z) + (x - z) * (x - z):=by grind
 have s1:=sq0 (x - y)
 have s2:=sq0 (y - z)
 have s3:=sq0 (x - z)
 have hd:n.dot n = x * x + y * y + z * z:=by unfold Pt.dot;omega
 have hm:=Int.mul_le_mul (a:=64 * c) (b:=30 * (x + y + z)) (c:=64 * c) (d:=30 * (x + y + z)) (by omega) (by omega) (by omega) (by omega)
 have hm2:64 * c + 1 <= 30 * (x + y + z):=hl
 have hm3:=Int.mul_le_mul hm2 hm2 (by omega) (by omega)
 have e2:(64 * c + 1) * (64 * c + 1) = 4096 * (c * c) + 128 * c + 1:=by grind
 have e3:30 * (x + y + z) * (30 * (x + y + z)) = 900 * ((x + y + z) * (x + y + z)):=by grind
 rw [e2,e3] at hm3
 have hc0:=sq0 c
 generalize (x + y + z) * (x + y + z) = S at *
 generalize c * c = C at *
 omega
theorem abs_ex (x:Int):∃ a:Int,-a <= x/\x <= a/\a * a = x * x:=by
 by_cases h:0 <= x
 ·exact ⟨x,by omega,Int.le_refl _,rfl⟩
 ·exact ⟨-x,by omega,by omega,by rw [Int.neg_mul_neg]⟩
theorem dot_off {n d:Pt} {m:Int} (h0:0 <= m) (hx:-(30 * m) <= d.x/\d.x <= 30 * m) (hy:-(30 * m) <= d.y/\d.y <= 30 * m) (hz:-(30 * m) <= d.z/\d.z <= 30 * m):n.dot d <= 64 * (m * up n):=by
 obtain ⟨x,ax⟩:=abs_ex n.x
 obtain ⟨y,ay⟩:=abs_ex n.y
 obtain ⟨z,az⟩:=abs_ex n.z
 obtain ⟨u1,u2⟩:=up_sq n
 have hs:=sum_up ax ay az u1 u2
 have k1:=mul_in (a:=n.x) (b:=d.x) (A:=x) (B:=30 * m) (by omega) hx
 have k2:=mul_in (a:=n.y) (b:=d.y) (A:=y) (B:=30 * m) (by omega) hy
 have k3:=mul_in (a:=n.z) (b:=d.z) (A:=z) (B:=30 * m) (by omega) hz
 have p:=Int.mul_nonneg (a:=m) (b:=64 * up n - 30 * (x + y + z)) h0 (by omega)
 have e:m * (64 * up n - 30 * (x + y + z)) = 64 * (m * up n) - (x * (30 * m) + y * (30 * m) + z * (30 * m)):=by grind
 rw [e] at p
 unfold Pt.dot
 omega
theorem holds_apart {f t:V3} {r:Int} {c:Cr} {k:Nat} (hr:1 <= r + c.r) (hc:castB (ballC f r) (wayZ f t) c = true) (hg:0 <= (castR (ballC f r) (wayZ f t) c).2.2) (hk:k <= (castR (ballC f r) (wayZ f t) c).1) {q:Pt} (hq:q ∈ c.P)
  {e:V3} (he:k = 16->e = t) (hf:k ≠ 16->e = ⟨f.x + (t.x - f.x) * (k:Nat) / 16,f.y + (t.y - f.y) * (k:Nat) / 16,f.z + (t.z - f.z) * (k:Nat) / 16⟩) :
  ((castR (ballC f r) (wayZ f t) c).2.2 + r + c.r) * dn (castR (ballC f r) (wayZ f t) c).2.1 - 4 * up (castR (ballC f r) (wayZ f t) c).2.1 <= (castR (ballC f r) (wayZ f t) c).2.1.dot (q.sub (grn e)):=by
 have hp:grn f ∈ (ballC f r).P:=List.mem_singleton_self _
 have h0:=cast_free hc hr hg hp hq (m:=0) ⟨by decide,by decide⟩
 have h1:=cast_free hc hr hg hp hq (m:=1024) ⟨by decide,by decide⟩
 have h16:=cast16 (ballC f r) (wayZ f t) c
 have er:(ballC f r).r = r:=rfl
 rw [er] at h0 h1
 rw [Int.zero_mul] at h0
 generalize castR (ballC f r) (wayZ f t) c = R at *
 obtain ⟨m,n,g⟩:=R
 dsimp only at *
 obtain ⟨u1,u2⟩:=up_sq n
 obtain ⟨G,hG⟩:∃ G,G = (g + r + c.r) * dn n:=⟨_,rfl⟩
 rw [<- hG] at h0 h1 ⊢
 obtain ⟨D,hD⟩:∃ D,D = n.dot (q.sub (grn f)):=⟨_,rfl⟩
 rw [<- hD] at h0 h1
 obtain ⟨E,hE⟩:∃ E,E = n.dot (wayBy (wayZ f t) m):=⟨_,rfl⟩
 rw [<- hE] at h1
 have hGD:G <= D:=by omega
 have hGE:G <= D - E:=by omega
 have hsub:n.dot (q.sub (grn e)) = D - n.dot ((grn e).sub (grn f)):=by
  rw [hD]
  unfold Pt.dot Pt.sub
  dsimp only
  simp only [Int.mul_sub]
  omega
 by_cases hkk:k = 16
 ·have hm:m = 16:=by omega
  have e1:=he hkk
  subst e1
  have e2:wayBy (wayZ f e) m = (grn e).sub (grn f):=by rw [hm];exact wayBy_full _
  rw [e2] at hE
  rw [hsub,<- hE]
  omega
 ·have e1:=hf hkk
  have hk16:(0:Int) <= (k:Int)/\((k:Nat):Int) <= 16:=by omega
  have gx:=gone16 (f:=f.x) (t:=t.x) hk16
  have gy:=gone16 (f:=f.y) (t:=t.y) hk16
  have gz:=gone16 (f:=f.z) (t:=t.z) hk16
  by_cases hm0:m = 0
  ·have hk0:k = 0:=by omega
   have e3:e = f:=by
    rw [e1,hk0]
    simp
   rw [hsub,e3]
   have:n.dot ((grn f).sub (grn f)) = 0:=by unfold Pt.dot Pt.sub;simp
   omega
  ·have hkm:(0:Int) <= (k:Int)/\((k:Nat):Int) <= (m:Nat):=by omega
   have bx:=gone_by hkm gx
   have by_:=gone_by hkm gy
   have bz:=gone_by hkm gz
   have ex:(grn e).sub (grn f) = ⟨(f.x + (t.x - f.x) * (k:Nat) / 16) / 1048576 - f.x / 1048576,(f.y + (t.y - f.y) * (k:Nat) / 16) / 1048576 - f.y / 1048576,(f.z + (t.z - f.z) * (k:Nat) / 16) / 1048576 - f.z / 1048576⟩:=by rw [e1];rfl
   have ew:wayBy (wayZ f t) m = ⟨((t.x / 1048576 - f.x / 1048576) * m).tdiv 16,((t.y / 1048576 - f.y / 1048576) * m).tdiv 16,((t.z / 1048576 - f.z / 1048576) * m).tdiv 16⟩:=rfl
   rw [ew] at hE
   rw [hsub,ex]
   generalize (f.x + (t.x - f.x) * (k:Nat) / 16) / 1048576 - f.x / 1048576 = dx at *
   generalize (f.y + (t.y - f.y) * (k:Nat) / 16) / 1048576 - f.y / 1048576 = dy at *
   generalize (f.z + (t.z - f.z) * (k:Nat) / 16) / 1048576 - f.z / 1048576 = dz at *
   generalize ((t.x / 1048576 - f.x / 1048576) * (m:Int)).tdiv 16 = wx at *
   generalize ((t.y / 1048576 - f.y / 1048576) * (m:Int)).tdiv 16 = wy at *
   generalize ((t.z / 1048576 - f.z / 1048576) * (m:Int)).tdiv 16 = wz at *
   have ho:=dot_off (n:=n) (d:=⟨16 * m * dx - 16 * k * wx,16 * m * dy - 16 * k * wy,16 * m * dz - 16 * k * wz⟩) (m:=(m:Int)) (by omega) bx by_ bz
   have e5:n.dot ⟨16 * m * dx - 16 * k * wx,16 * m * dy - 16 * k * wy,16 * m * dz - 16 * k * wz⟩ = 16 * (m * n.dot ⟨dx,dy,dz⟩) - 16 * (k * E):=by
    rw [hE]
    unfold Pt.dot
    dsimp only
    grind
   rw [e5] at ho
   generalize n.dot ⟨dx,dy,dz⟩ = X at *
   have p1:=Int.mul_nonneg (a:=(m:Int) - k) (b:=D - G) (by omega) (by omega)
   have p2:=Int.mul_nonneg (a:=(k:Int)) (b:=D - E - G) (by omega) (by omega)
   have e6:((m:Int) - k) * (D - G) + k * (D - E - G) = m * (D - G) - k * E:=by grind
   have e7:(m:Int) * (D - X - G + 4 * up n) = m * (D - G) - m * X + 4 * (m * up n):=by grind
   have p3:0 <= (m:Int) * (D - X - G + 4 * up n):=by rw [e7];omega
   have:0 <= D - X - G + 4 * up n:=by
    refine Int.not_lt.1 fun hl=>?_
    have:=Int.mul_neg_of_pos_of_neg (a:=(m:Int)) (b:=D - X - G + 4 * up n) (by omega) hl
    omega
   omega
end
section
def V3.m43 (v:V3):Prop:=(-8796093022208 <= v.x/\v.x <= 8796093022208)/\(-8796093022208 <= v.y/\v.y <= 8796093022208)/\(-8796093022208 <= v.z/\v.z <= 8796093022208)
theorem V3.m42.wide {v:V3} (h:v.m42):v.m43:=by unfold V3.m42 at h;unfold V3.m43;omega
theorem shot_cast {g t:V3} {r:Int} {c:Cr} (hg:g.m43) (ht:g.n38 t) (hr:1 <= r/\r <= 16384) (hc:mayC c = true):castB (ballC g r) (wayZ g t) c = true/\mayC (ballC g r) = true:=by
 unfold V3.m43 V3.n38 at *
 have h1:(grn g).inB 16777216 = true:=by rw [Pt.inB_iff];unfold grn;dsimp only;omega
 have h2:((grn g).mov (wayZ g t)).inB 16777216 = true:=by rw [Pt.inB_iff];unfold grn wayZ grn Pt.mov Pt.sub;dsimp only;omega
 have h3:(wayZ g t).inB 4194304 = true:=by rw [Pt.inB_iff];unfold wayZ grn Pt.sub;dsimp only;omega
 constructor
 ·unfold castB goB ballC
  simp only [Bool.and_eq_true,decide_eq_true_eq,List.all_eq_true,List.length_singleton,List.length_nil,List.map_cons,List.map_nil,List.mem_singleton]
  refine ⟨⟨⟨⟨⟨⟨⟨⟨by omega,by omega⟩,fun p hp=>(by rw [hp];exact h1)⟩,by omega,fun p hp=>(by cases hp)⟩,by omega,fun p hp=>(by cases hp)⟩,by omega,by omega⟩,h3⟩,fun p hp=>(by rw [hp];exact h2)⟩,hc⟩
 ·unfold mayC ballC
  simp only [Bool.and_eq_true,decide_eq_true_eq,List.all_eq_true,List.length_singleton,List.length_nil,List.mem_singleton]
  refine ⟨⟨⟨⟨⟨by omega,by omega⟩,fun p hp=>(by rw [hp];exact h1)⟩,by omega,fun p hp=>(by cases hp)⟩,by omega,fun p hp=>(by cases hp)⟩,by omega,by omega⟩
theorem hold_first {a c:Cr} {w:Pt} (hc:castB a w c = true):(holdP a w c = true ↔ 0 <= (apP a c).2):=by
 unfold holdP
 rw [hc,Bool.true_and,decide_eq_true_eq]
 unfold castR
 rw [hc,if_pos rfl]
 by_cases h:(apP a c).2 < 0
 ·rw [if_pos h]
 ·rw [if_neg h]
  exact ⟨fun _=>by omega,fun _=>castF_gap _ _ _ _ _ _ (by omega)⟩
end
section
open Go.RowKit Go.Shelf
theorem Lies.grown {A B:World} {v:Value} {Ls:List Pt} {fb:Nat} (h:Lies A v Ls) (hg:A.grownBy B (some fb)) (hne:∀ q n c,v = .slice (some q) n c->Ls ≠ []->q.block ≠ fb):Lies B v Ls:=by
 obtain ⟨o,cap,e,h1,h2,h3⟩:=h.form
 refine ⟨o,cap,e,h1,h2,fun i hi=>?_⟩
 obtain ⟨g,off,e',a,b,c⟩:=h3 i hi
 have hf:g ≠ fb:=hne ⟨g,off,none⟩ _ _ (by rw [e,e']) (fun e0=>by rw [e0] at hi;simp at hi)
 have hbl:B.heap[g]? = A.heap[g]?:=hg.block g (World.block_lt_of_cell? _ _ a) (fun e=>hf (by simpa using e))
 exact ⟨g,off,e',(World.cell?_of_block (w:=A) hbl).trans a,(World.cell?_of_block (w:=A) hbl).trans b,(World.cell?_of_block (w:=A) hbl).trans c⟩
end
end Go.Proofs.YtablgiflakncfaaGreat
