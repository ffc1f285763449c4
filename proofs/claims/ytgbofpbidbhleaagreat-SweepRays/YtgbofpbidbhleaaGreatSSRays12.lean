/- Chapter 11's first example, by hand. -/
import Derived.Test.YtgbofpbidbhleaaGreatSSRays11
import Derived.Test.YtgbofpbidbhleaaGreatSSRays5
import Derived.Test.YtgbofpbidbhleaaGreatSSRays6
import Derived.Test.YtgbofpbidbhleaaGreatSSRays1
import Derived.RangeFuncNested
import Derived.RangeFuncBound
import Derived.RangeFuncCalls
import Derived.RangeFuncLeaves
import Derived.RangeFuncBox
import Derived.Shelf.Abstract
import Derived.WalkKit
import Derived.OwnWalkIn
import Derived.TacticsInMore
import Derived.LoopNIn
import Derived.LoopIn
import Derived.LoopTactic
import Derived.ProofKit
import Derived.Handy
import Derived.Test.YtgbofpbidbhleaaGreatProg
import Derived.Test.YtgbofpbidbhleaaGreatSSRays7
import Derived.Test.YtgbofpbidbhleaaGreatSSRays0
import Derived.Deep.MidRow
set_option maxHeartbeats 8000000
set_option maxRecDepth 100000
set_option linter.unusedVariables false
namespace Go.Proofs.YtgbofpbidbhleaaGreat
section
theorem short_small {p:Pt} (hp:p.inB 1048576 = true):p.short = p.low.low:=by
 unfold Pt.short
 rw [if_pos (inB_mono hp (by decide))]
 unfold Pt.half
 rw [halveF_id _ _ (Pt.low_in hp)]
theorem ex_low:∀ n,n < 161->0 < n->(Pt.low (Pt.low ⟨(n:Nat),0,0⟩)) = ⟨1,0,0⟩:=by decide +kernel
theorem ex_short_n {n:Nat} (h:n < 161) (h0:0 < n):Pt.short ⟨(n:Int),0,0⟩ = ⟨1,0,0⟩:=by
 rw [short_small (by rw [Pt.inB_iff];dsimp only;omega)]
 exact ex_low n h h0
theorem ex_short_0:Pt.short ⟨0,0,0⟩ = ⟨0,0,0⟩:=by
 rw [short_small (by decide)]
 decide +kernel
theorem ex_lng_0:Pt.lng ⟨0,0,0⟩ = Pt.O:=by
 unfold Pt.lng
 rw [ex_short_0,if_pos (by rfl)]
abbrev exB:Cr:=⟨[⟨20,0,0⟩],[],[],2⟩
theorem ex_wayE {d:Pt} (h:d = ⟨1,0,0⟩ \/ d = ⟨0,0,0⟩):wayE d ⟨1,0,0⟩ = ⟨0,0,0⟩:=by
 have e:Pt.cross ⟨1,0,0⟩ d = ⟨0,0,0⟩:=by rcases h with rfl | rfl <;> decide
 unfold wayE
 rw [e,ex_short_0]
 decide
theorem exw_told {n:Nat} (h1:1 <= n) (h2:n <= 20) (r:Int):told ⟨[⟨0,0,0⟩,⟨n,0,0⟩],[],[⟨1,0,0⟩],r⟩ exB = (⟨1048576,0,0⟩,20 - n - r - 2):=by
 have d0:wayD ⟨0,0,0⟩ ⟨20,0,0⟩ = ⟨1,0,0⟩:=ex_short_n (n:=20) (by omega) (by omega)
 have hc:candL ⟨[⟨0,0,0⟩,⟨n,0,0⟩],[],[⟨1,0,0⟩],r⟩ exB = [⟨1,0,0⟩,⟨0,0,0⟩,wayD ⟨n,0,0⟩ ⟨20,0,0⟩,wayE (wayD ⟨n,0,0⟩ ⟨20,0,0⟩) ⟨1,0,0⟩]:=by
  unfold candL crossL wayL wayR wayG
  simp [d0,ex_wayE]
 have ro1:room ⟨1048576,0,0⟩ [⟨0,0,0⟩,⟨n,0,0⟩] [⟨20,0,0⟩] = (20 - n) * 1048576:=by
  unfold room loP hiP
  simp [loK,hiK,pt,Pt.dot]
  omega
 have ro2:room ⟨-1048576,0,0⟩ [⟨0,0,0⟩,⟨n,0,0⟩] [⟨20,0,0⟩] = (-20) * 1048576:=by
  unfold room loP hiP
  simp [loK,hiK,pt,Pt.dot]
  omega
 have hb:∃ M,both (candL ⟨[⟨0,0,0⟩,⟨n,0,0⟩],[],[⟨1,0,0⟩],r⟩ exB) = ⟨1048576,0,0⟩ :: ⟨-1048576,0,0⟩ :: M/\∀ m ∈ M,m = (⟨1048576,0,0⟩:Pt) \/ m = ⟨-1048576,0,0⟩:=by
  rw [hc]
  by_cases hn:n = 20
  ·subst hn
   have d1:wayD ⟨((20:Nat):Int),0,0⟩ ⟨20,0,0⟩ = ⟨0,0,0⟩:=ex_short_0
   rw [d1,ex_wayE (Or.inr rfl)]
   refine ⟨[],?_,by simp⟩
   simp only [both,ex_lng,ex_lng_0]
   rfl
  ·have d1:wayD ⟨(n:Int),0,0⟩ ⟨20,0,0⟩ = ⟨1,0,0⟩:=by
    have e:Pt.sub ⟨20,0,0⟩ ⟨(n:Int),0,0⟩ = ⟨((20 - n:Nat):Int),0,0⟩:=by
     unfold Pt.sub
     simp
     omega
    unfold wayD
    rw [e]
    exact ex_short_n (by omega) (by omega)
   rw [d1,ex_wayE (Or.inl rfl)]
   refine ⟨[⟨1048576,0,0⟩,⟨-1048576,0,0⟩],?_,by simp⟩
   simp only [both,ex_lng,ex_lng_0]
   rfl
 obtain ⟨M,hM,hMm⟩:=hb
 exact told_x hM hMm ro1 ro2 (by omega)
theorem exw_told0 (r:Int):told ⟨[⟨0,0,0⟩],[],[],r⟩ exB = (⟨1048576,0,0⟩,20 - r - 2):=by
 have d0:wayD ⟨0,0,0⟩ ⟨20,0,0⟩ = ⟨1,0,0⟩:=ex_short_n (n:=20) (by omega) (by omega)
 have hc:candL ⟨[⟨0,0,0⟩],[],[],r⟩ exB = [⟨1,0,0⟩]:=by
  unfold candL crossL wayL wayR wayG
  simp [d0]
 have ro1:room ⟨1048576,0,0⟩ [⟨0,0,0⟩] [⟨20,0,0⟩] = 20 * 1048576:=by
  unfold room loP hiP
  simp [loK,hiK,pt,Pt.dot]
 have ro2:room ⟨-1048576,0,0⟩ [⟨0,0,0⟩] [⟨20,0,0⟩] = (-20) * 1048576:=by
  unfold room loP hiP
  simp [loK,hiK,pt,Pt.dot]
 have hb:both (candL ⟨[⟨0,0,0⟩],[],[],r⟩ exB) = ⟨1048576,0,0⟩ :: ⟨-1048576,0,0⟩ :: []:=by
  rw [hc]
  simp only [both,ex_lng]
  rfl
 exact told_x hb (by simp) ro1 ro2 (by omega)
theorem ex_trail {r m:Int} {k n:Nat} (hr:0 <= r/\r <= 65536) (hm:m = 32 \/ m = 160) (hk:k <= 16) (hn:(m * k).tdiv 16 = n):trailC ⟨[⟨0,0,0⟩],[],[],r⟩ ⟨m,0,0⟩ k = ⟨[⟨0,0,0⟩,⟨n,0,0⟩],[],[⟨1,0,0⟩],r⟩:=by
 have hg:goB ⟨[⟨0,0,0⟩],[],[],r⟩ ⟨m,0,0⟩ = true:=by
  unfold goB
  simp only [Bool.and_eq_true,decide_eq_true_eq]
  refine ⟨⟨⟨⟨⟨by simp,by decide⟩,by simp⟩,by simp⟩,hr⟩,by rw [Pt.inB_iff];rcases hm with rfl | rfl <;> decide⟩
 rw [trail_yes hg (by omega)]
 have hs:Pt.short ⟨m,0,0⟩ = ⟨1,0,0⟩:=by
  rcases hm with rfl | rfl
  ·exact ex_short_n (n:=32) (by omega) (by omega)
  ·exact ex_short_n (n:=160) (by omega) (by omega)
 rw [hs]
 have hw:wayBy ⟨m,0,0⟩ (k:Int) = ⟨(n:Int),0,0⟩:=by
  unfold wayBy
  dsimp only
  rw [hn]
  simp
 rw [hw]
 simp [Pt.mov,keepD,Pt.O]
theorem ex_mayT {r:Int} {n:Nat} (hr:0 <= r/\r <= 65536) (hn:n <= 160):mayC ⟨[⟨0,0,0⟩,⟨(n:Int),0,0⟩],[],[⟨1,0,0⟩],r⟩ = true:=by
 unfold mayC
 simp only [Bool.and_eq_true,decide_eq_true_eq,List.all_eq_true]
 refine ⟨⟨⟨⟨by simp,?_⟩,by simp⟩,⟨by simp,by decide⟩⟩,hr⟩
 intro p hp
 simp only [List.mem_cons,List.not_mem_nil,or_false] at hp
 rcases hp with rfl | rfl
 ·decide
 ·rw [Pt.inB_iff];dsimp only;omega
theorem ex_apP {r:Int} {n:Nat} (hr:0 <= r/\r <= 65536) (h1:1 <= n) (h2:n <= 20):apP ⟨[⟨0,0,0⟩,⟨(n:Int),0,0⟩],[],[⟨1,0,0⟩],r⟩ exB = (⟨1048576,0,0⟩,20 - n - r - 2):=by
 unfold apP
 rw [ex_mayT hr (by omega),show mayC exB = true from by decide,Bool.and_self,if_pos rfl]
 exact exw_told h1 h2 r
theorem ex_apP0 {r:Int} (hr:0 <= r/\r <= 65536):apP ⟨[⟨0,0,0⟩],[],[],r⟩ exB = (⟨1048576,0,0⟩,20 - r - 2):=by
 unfold apP
 have:mayC ⟨[⟨0,0,0⟩],[],[],r⟩ = true:=by
  unfold mayC
  simp only [Bool.and_eq_true,decide_eq_true_eq]
  exact ⟨⟨⟨⟨by simp,by decide⟩,by simp⟩,by simp⟩,hr⟩
 rw [this,show mayC exB = true from by decide,Bool.and_self,if_pos rfl]
 exact exw_told0 r
theorem ex_castB {r m:Int} (hr:0 <= r/\r <= 65536) (hm:m = 32 \/ m = 160):castB ⟨[⟨0,0,0⟩],[],[],r⟩ ⟨m,0,0⟩ exB = true:=by
 unfold castB
 simp only [Bool.and_eq_true]
 refine ⟨⟨?_,by rcases hm with rfl | rfl <;> decide⟩,by decide⟩
 unfold goB
 simp only [Bool.and_eq_true,decide_eq_true_eq]
 exact ⟨⟨⟨⟨⟨by simp,by decide⟩,by simp⟩,by simp⟩,hr⟩,by rw [Pt.inB_iff];rcases hm with rfl | rfl <;> decide⟩
theorem ex_go {r m:Int} {k n j:Nat} {x:Pt × Int} (hr:0 <= r/\r <= 65536) (hm:m = 32 \/ m = 160) (hk:k + 1 <= 16) (hn:(m * ((k + 1:Nat):Int)).tdiv 16 = n) (h1:1 <= n) (h2:n <= 20):castF ⟨[⟨0,0,0⟩],[],[],r⟩ ⟨m,0,0⟩ exB (j + 1) k x = if (20 - n - r - 2:Int) < 0 then (k,x) else castF ⟨[⟨0,0,0⟩],[],[],r⟩ ⟨m,0,0⟩ exB j (k + 1) (⟨1048576,0,0⟩,20 - n - r - 2):=by
 have e:apP (trailC ⟨[⟨0,0,0⟩],[],[],r⟩ ⟨m,0,0⟩ ((k:Int) + 1)) exB = (⟨1048576,0,0⟩,20 - n - r - 2):=by
  rw [show ((k:Int) + 1) = ((k + 1:Nat):Int) by omega,ex_trail hr hm hk hn,ex_apP hr h1 h2]
 simp only [castF]
 rw [e]
theorem ex_cast:castR ⟨[⟨0,0,0⟩],[],[],2⟩ ⟨32,0,0⟩ exB = (8,⟨1048576,0,0⟩,0):=by
 unfold castR
 rw [ex_castB (by decide) (Or.inl rfl),if_pos rfl,ex_apP0 (by decide),if_neg (by decide)]
 rw [ex_go (n:=2) (by decide) (Or.inl rfl) (by decide) (by decide) (by decide) (by decide),if_neg (by decide)]
 rw [ex_go (n:=4) (by decide) (Or.inl rfl) (by decide) (by decide) (by decide) (by decide),if_neg (by decide)]
 rw [ex_go (n:=6) (by decide) (Or.inl rfl) (by decide) (by decide) (by decide) (by decide),if_neg (by decide)]
 rw [ex_go (n:=8) (by decide) (Or.inl rfl) (by decide) (by decide) (by decide) (by decide),if_neg (by decide)]
 rw [ex_go (n:=10) (by decide) (Or.inl rfl) (by decide) (by decide) (by decide) (by decide),if_neg (by decide)]
 rw [ex_go (n:=12) (by decide) (Or.inl rfl) (by decide) (by decide) (by decide) (by decide),if_neg (by decide)]
 rw [ex_go (n:=14) (by decide) (Or.inl rfl) (by decide) (by decide) (by decide) (by decide),if_neg (by decide)]
 rw [ex_go (n:=16) (by decide) (Or.inl rfl) (by decide) (by decide) (by decide) (by decide),if_neg (by decide)]
 rw [ex_go (n:=18) (by decide) (Or.inl rfl) (by decide) (by decide) (by decide) (by decide),if_pos (by decide)]
 rfl
theorem ex_rayc:castR (dotC ⟨0,0,0⟩) ⟨160,0,0⟩ exB = (1,⟨1048576,0,0⟩,8):=by
 unfold castR dotC
 rw [ex_castB (by decide) (Or.inr rfl),if_pos rfl,ex_apP0 (by decide),if_neg (by decide)]
 rw [ex_go (n:=10) (by decide) (Or.inr rfl) (by decide) (by decide) (by decide) (by decide),if_neg (by decide)]
 rw [ex_go (n:=20) (by decide) (Or.inr rfl) (by decide) (by decide) (by decide) (by decide),if_pos (by decide)]
 rfl
theorem ex_ray:rayV (dotC ⟨0,0,0⟩) ⟨160,0,0⟩ [exB] = .tuple #[.int .i64 0,.int .i64 1,.bool true]:=by
 have hg:goB (dotC ⟨0,0,0⟩) ⟨160,0,0⟩ = true:=by decide
 have ht:rayT (dotC ⟨0,0,0⟩) ⟨160,0,0⟩ exB = some 1:=by
  unfold rayT
  rw [ex_rayc,show castB (dotC ⟨0,0,0⟩) ⟨160,0,0⟩ exB = true from ex_castB (by decide) (Or.inr rfl)]
  rfl
 unfold rayV
 rw [hg,if_pos rfl]
 have:bestK (rayT (dotC ⟨0,0,0⟩) ⟨160,0,0⟩) rayB [exB] [exB].length = some (0,1):=bestK_first _ _ _ ht rfl
 rw [this]
 rfl
end
section
open Go.RowKit Go.Shelf
theorem wpick_any (c n:Int) (w:World) (hc:-9223372036854775808 <= c/\c <= 9223372036854775807) (hn:0 < n) (hn':n <= 9223372036854775807) :
  Calls Tryz.prog 11 #[.int .i64 c,.int .i64 n] w fun e w'=>e = .returned (.int .i64 (pickY c n))/\w' = w:=by
 unfold pickY
 by_cases h:c < 0
 ·have hb:0 <= -(c + 1):=by omega
  have hb':-(c + 1) <= 9223372036854775807:=by omega
  have hz:(n == 0) = false:=beq_eq_false_iff_ne.2 (by omega)
  rw [if_pos h]
  go_enter Tryz.func11,Tryz.ntmps11
  go_wp2
  go_ret
  have e:(c + 1).tmod n = -(-(c + 1) % n):=by
   rw [<- Int.tmod_eq_emod_of_nonneg hb,Int.neg_tmod,Int.neg_neg]
  exact ⟨by rw [e,Int.neg_neg];rfl,rfl⟩
 ·have hz:(n == 0) = false:=beq_eq_false_iff_ne.2 (by omega)
  rw [if_neg h]
  go_enter Tryz.func11,Tryz.ntmps11
  go_wp2
  go_ret
  exact ⟨rfl,rfl⟩
theorem wpick_b (c n:Int) (w:World) (hc:-9223372036854775808 <= c/\c <= 9223372036854775807) (hn:0 < n) (hn':n <= 9223372036854775807) :
  Calls Tryz.prog 11 #[.int .i64 c,.int .i64 n] w fun e W=>e = .returned (.int .i64 (pickY c n))/\Below w.heap.size w W:=
 (wpick_any c n w hc hn hn').mono (by rintro e W ⟨h1,rfl⟩;exact ⟨h1,Below.refl _ _⟩)
theorem liesC_one {W:World} {g:Nat} {c:Cr} {pv av ev:Value} (h:Cel W g [pv,av,ev,.int .i64 c.r]) (l1:Lies W pv c.P) (l2:Lies W av c.A) (l3:Lies W ev c.E):LiesC W (.slice (some ⟨g,0,none⟩) 1 1) [c]:=by
 refine ⟨_,1,rfl,Nat.le_refl _,by omega,fun i hi=>?_⟩
 have e:i = 0:=by simp at hi;exact hi
 subst e
 exact ⟨g,0,pv,av,ev,rfl,h 0 _ rfl,h 1 _ rfl,h 2 _ rfl,h 3 _ rfl,l1,l2,l3⟩
theorem liesC_two {W:World} {g:Nat} {c d:Cr} {pv av ev qv bv fv:Value} (h:Cel W g [pv,av,ev,.int .i64 c.r,qv,bv,fv,.int .i64 d.r]) (l1:Lies W pv c.P) (l2:Lies W av c.A) (l3:Lies W ev c.E) (m1:Lies W qv d.P) (m2:Lies W bv d.A) (m3:Lies W fv d.E):LiesC W (.slice (some ⟨g,0,none⟩) 2 2) [c,d]:=by
 refine ⟨_,2,rfl,Nat.le_refl _,by omega,fun i hi=>?_⟩
 have e:i = 0 \/ i = 1:=by simp at hi;omega
 rcases e with rfl | rfl
 ·exact ⟨g,0,pv,av,ev,rfl,h 0 _ rfl,h 1 _ rfl,h 2 _ rfl,h 3 _ rfl,l1,l2,l3⟩
 ·exact ⟨g,0,qv,bv,fv,rfl,h 4 _ rfl,h 5 _ rfl,h 6 _ rfl,h 7 _ rfl,m1,m2,m3⟩
theorem wawake_any (w0:World):Calls Tryz.prog 8 #[] w0 fun e W=>e = .returned (.bool true)/\Below w0.heap.size w0 W:=by
 have HCS:Hid _:=fun (v1 v2:Value) (w':World) (h1:Lies w' v1 [⟨0,0,0⟩]) (h2:Lies w' v2 [⟨20,0,0⟩])=>wcast_any ⟨[⟨0,0,0⟩],[],[],2⟩ ⟨32,0,0⟩ exB v1 (.slice none 0 0) (.slice none 0 0) v2 (.slice none 0 0) (.slice none 0 0) w' h1 (lies_nil9 _) (lies_nil9 _) h2 (lies_nil9 _) (lies_nil9 _)
 rw [ex_cast,ex_castB (by decide) (Or.inl rfl)] at HCS
 have HRY:Hid _:=fun (g:Nat) (v2:Value) (w':World) (hc:Cel w' g [v2,.slice none 0 0,.slice none 0 0,.int .i64 2]) (h2:Lies w' v2 [⟨20,0,0⟩])=>wray_any ⟨0,0,0⟩ ⟨160,0,0⟩ [exB] _ w' (liesC_one (c:=exB) hc h2 (lies_nil9 _) (lies_nil9 _))
 rw [ex_ray] at HRY
 unfold coreA Pt.v apV at *
 dsimp only at HCS HRY
 obtain ⟨X,hX⟩:∃ V,V = (((w0.alloc (.cells #[.int .i64 0,.int .i64 0,.int .i64 0] 23)).alloc (.cells #[.slice (some ⟨w0.heap.size,0,none⟩) 1 1,.slice none 0 0,.slice none 0 0,.int .i64 2] 35)).alloc (.cells #[.int .i64 20,.int .i64 0,.int .i64 0] 23)).alloc (.cells #[.slice (some ⟨w0.heap.size + 1 + 1,0,none⟩) 1 1,.slice none 0 0,.slice none 0 0,.int .i64 2] 35):=⟨_,rfl⟩
 obtain ⟨pa,hpa⟩:∃ b,b = w0.heap.size:=⟨_,rfl⟩
 obtain ⟨ab,hab⟩:∃ b,b = w0.heap.size + 1:=⟨_,rfl⟩
 obtain ⟨pb,hpb⟩:∃ b,b = w0.heap.size + 1 + 1:=⟨_,rfl⟩
 obtain ⟨bb,hbb⟩:∃ b,b = w0.heap.size + 1 + 1 + 1:=⟨_,rfl⟩
 have n1:=Cel.new w0 [.int .i64 0,.int .i64 0,.int .i64 0] 23
 have n2:=Cel.new (w0.alloc (.cells #[.int .i64 0,.int .i64 0,.int .i64 0] 23)) [.slice (some ⟨w0.heap.size,0,none⟩) 1 1,.slice none 0 0,.slice none 0 0,.int .i64 2] 35
 rw [World.size_alloc] at n2
 have n3:=Cel.new ((w0.alloc (.cells #[.int .i64 0,.int .i64 0,.int .i64 0] 23)).alloc (.cells #[.slice (some ⟨w0.heap.size,0,none⟩) 1 1,.slice none 0 0,.slice none 0 0,.int .i64 2] 35)) [.int .i64 20,.int .i64 0,.int .i64 0] 23
 rw [World.size_alloc,World.size_alloc] at n3
 have n4:=Cel.new (((w0.alloc (.cells #[.int .i64 0,.int .i64 0,.int .i64 0] 23)).alloc (.cells #[.slice (some ⟨w0.heap.size,0,none⟩) 1 1,.slice none 0 0,.slice none 0 0,.int .i64 2] 35)).alloc (.cells #[.int .i64 20,.int .i64 0,.int .i64 0] 23)) [.slice (some ⟨w0.heap.size + 1 + 1,0,none⟩) 1 1,.slice none 0 0,.slice none 0 0,.int .i64 2] 35
 rw [World.size_alloc,World.size_alloc,World.size_alloc] at n4
 have L1:Hid (Lies X (.slice (some ⟨pa,0,none⟩) 1 1) [⟨0,0,0⟩]):=by show Lies _ _ _;rw [hX,hpa];exact lies_one9 (((n1.step (n_after _ _)).step (n_after _ _)).step (n_after _ _))
 have C1:Hid (Cel X ab [.slice (some ⟨pa,0,none⟩) 1 1,.slice none 0 0,.slice none 0 0,.int .i64 2]):=by show Cel _ _ _;rw [hX,hab,hpa];exact (n2.step (n_after _ _)).step (n_after _ _)
 have L2:Hid (Lies X (.slice (some ⟨pb,0,none⟩) 1 1) [⟨20,0,0⟩]):=by show Lies _ _ _;rw [hX,hpb];exact lies_one9 (n3.step (n_after _ _))
 have C2:Hid (Cel X bb [.slice (some ⟨pb,0,none⟩) 1 1,.slice none 0 0,.slice none 0 0,.int .i64 2]):=by show Cel _ _ _;rw [hX,hbb,hpb];exact n4
 have HB:Hid (Below w0.heap.size w0 X):=by show Below _ _ _;rw [hX];exact b_step (b_step (b_step (n_after _ _) (n_after _ _)) (n_after _ _)) (n_after _ _)
 clear n1 n2 n3 n4
 go_enter Tryz.func8,Tryz.ntmps8
 go_upto_region 3 with fail
 rw [<- hX,<- hbb,<- hpb,<- hab,<- hpa]
 clear hX hbb hpb hab hpa
 have x0:=C1.out 0 _ rfl
 have x1:=C1.out 1 _ rfl
 have x2:=C1.out 2 _ rfl
 have x3:=C1.out 3 _ rfl
 have y0:=C2.out 0 _ rfl
 have y1:=C2.out 1 _ rfl
 have y2:=C2.out 2 _ rfl
 have y3:=C2.out 3 _ rfl
 go_wp2_with (fail)
 refine Calls.mono (HCS.out _ _ _ L1.out L2.out) ?_
 rintro e V1 ⟨rfl,hb⟩
 have C2:Hid (Cel _ _ _):=C2.out.step hb
 have L2:Hid _:=L2.out.below hb
 have HB:Hid _:=b_step HB.out hb
 clear hb x0 x1 x2 x3 y0 y1 y2 y3 HCS C1 L1
 obtain ⟨V2,hV2⟩:∃ V,V = V1.alloc (.cells #[.int .i64 1048576,.int .i64 0,.int .i64 0,.int .i64 0] 45):=⟨_,rfl⟩
 obtain ⟨xb,hxb⟩:∃ b,b = V1.heap.size:=⟨_,rfl⟩
 have hb2:Below V1.heap.size V1 V2:=by rw [hV2];exact n_after _ _
 have CX:Hid (Cel V2 xb [.int .i64 1048576,.int .i64 0,.int .i64 0,.int .i64 0]):=by show Cel _ _ _;rw [hV2,hxb];exact Cel.new V1 [.int .i64 1048576,.int .i64 0,.int .i64 0,.int .i64 0] 45
 have C2:Hid (Cel _ _ _):=C2.out.step hb2
 have L2:Hid _:=L2.out.below hb2
 have HB:Hid _:=b_step HB.out hb2
 go_upto_region 4 with fail
 rw [<- hV2,<- hxb]
 clear hV2 hxb hb2
 have y0:=C2.out 0 _ rfl
 have y1:=C2.out 1 _ rfl
 have y2:=C2.out 2 _ rfl
 have y3:=C2.out 3 _ rfl
 have hb3:=n_after V2 (.cells #[.slice (some ⟨pb,0,none⟩) 1 1,.slice none 0 0,.slice none 0 0,.int .i64 2] 35)
 have HRY2:Hid _:=HRY.out V2.heap.size (.slice (some ⟨pb,0,none⟩) 1 1) _ (Cel.new V2 [.slice (some ⟨pb,0,none⟩) 1 1,.slice none 0 0,.slice none 0 0,.int .i64 2] 35) (L2.out.below hb3)
 have HB:Hid _:=b_step HB.out hb3
 have CX:Hid (Cel _ _ _):=CX.out.step hb3
 clear HRY hb3
 go_wp2_with (fail)
 refine Calls.mono HRY2.out ?_
 rintro e V3 ⟨rfl,hb⟩
 have CX:Hid (Cel _ _ _):=CX.out.step hb
 have HB:Hid _:=b_step HB.out hb
 clear hb y0 y1 y2 y3 HRY2 C2 L2
 have x0:=CX.out 0 _ rfl
 have x1:=CX.out 1 _ rfl
 have x2:=CX.out 2 _ rfl
 have x3:=CX.out 3 _ rfl
 go_wp2_with (fail)
 go_ret
 exact ⟨rfl,HB.out⟩
end
section
open Go.RowKit Go.Shelf
def highI (a b:Int):Int:=if b > a then b else a
def Pt.plus (p q:Pt):Pt:=⟨IntKind.i64.wrap (p.x + q.x),IntKind.i64.wrap (p.y + q.y),IntKind.i64.wrap (p.z + q.z)⟩
def Pt.greater (p q:Pt):Pt:=⟨highI p.x q.x,highI p.y q.y,highI p.z q.z⟩
def Pt.le (p q:Pt):Bool:=decide (p.x <= q.x/\p.y <= q.y/\p.z <= q.z)
structure Bx where
 lo:Pt
 hi:Pt
def Bx.v (b:Bx):Value:=.agg #[.int .i64 b.lo.x,.int .i64 b.lo.y,.int .i64 b.lo.z,.int .i64 b.hi.x,.int .i64 b.hi.y,.int .i64 b.hi.z]
end
section
open Go.RowKit Go.Shelf
def Bx.grown (a:Bx) (n:Int):Bx:=⟨a.lo.plus ⟨IntKind.i64.wrap (-n),IntKind.i64.wrap (-n),IntKind.i64.wrap (-n)⟩,a.hi.plus ⟨n,n,n⟩⟩
end
section
open Go.RowKit Go.Shelf
def Pt.win (p:Pt) (m:Int):Bool:=p.le ⟨m,m,m⟩ && Pt.le ⟨IntKind.i64.wrap (-m),IntKind.i64.wrap (-m),IntKind.i64.wrap (-m)⟩ p
end
section
open Go.RowKit Go.Shelf
theorem Cells.lt {W:World} {b:Nat} {u:Value} {vs:List Value} (h:Cells W b (u :: vs)):b < W.heap.size:=World.block_lt_of_cell? _ _ (h 0 u rfl).1
theorem Cells.apart {W:World} {b b':Nat} {vs:List Value} (h:Cells W b vs) (hne:b ≠ b') (o:Nat) (u:Value):Cells (W.setCell ⟨b',o,none⟩ u) b vs:=fun i v e =>
 ⟨by simp [go_sem,(h i v e).1],by simp [go_sem,(h i v e).2]⟩
def coreV (pv av ev:Value) (r:Int):Value:=.agg #[pv,av,ev,.int .i64 r]
theorem Cells.grew {A B:World} {row:Option Nat} {b:Nat} {vs:List Value} (h:Cells A b vs) (hg:A.grownBy B row) (hb:∀ r,row = some r->r ≠ b):Cells B b vs:=fun i v e=>by
 have hlt:=World.block_lt_of_cell? _ _ (h i v e).1
 have hbl:=hg.block b hlt (fun e=>hb b e.symm rfl)
 exact ⟨(World.cell?_of_block (w:=A) hbl).trans (h i v e).1,(World.frozen?_of_block (w:=A) hbl).trans (h i v e).2⟩
end
section
open Go.RowKit Fx
def NRow (w:World) (a:Option Addr) (zs:List Int):Prop:=zs.length = 0 \/ ∃ b off,a = some ⟨b,off,none⟩/\∀ k,k < zs.length->w.cell? ⟨b,off + k,none⟩ = some (.int .i64 (zs.getD k 0))
end
section
open Go.RowKit Fx
structure Leaves (p:Addr) (W W':World):Prop where
 size:W.heap.size <= W'.heap.size
 other:∀ q:Addr,q.block < W.heap.size->q.block ≠ p.block->W'.cell? q = W.cell? q/\W'.frozen? q = W.frozen? q
 below:∀ (B:Nat) (w:World),Below B w W->B <= p.block->B <= W.heap.size->Below B w W'
 kept:W'.os = W.os/\W'.tape = W.tape/\W'.output = W.output/\∀ k,k < W.heap.size->k ≠ p.block->W'.heap[k]? = W.heap[k]?
 beside:p.block < W.heap.size->∀ o,o ≠ p.off->W'.cell? ⟨p.block,o,none⟩ = W.cell? ⟨p.block,o,none⟩/\W'.frozen? ⟨p.block,o,none⟩ = W.frozen? ⟨p.block,o,none⟩
theorem Leaves.refl (p:Addr) (W:World):Leaves p W W:=⟨Nat.le_refl _,fun _ _ _=>⟨rfl,rfl⟩,fun _ _ h _ _=>h,⟨rfl,rfl,rfl,fun _ _ _=>rfl⟩,fun _ _ _=>⟨rfl,rfl⟩⟩
theorem Leaves.step {p:Addr} {W w w':World} (h:Leaves p W w) (k:Below W.heap.size w w'):Leaves p W w':=by
 refine ⟨Nat.le_trans h.size k.size,fun q hq hne=>?_,fun B w0 hb h1 h2=>(h.below B w0 hb h1 h2).trans (k.mono h2),⟨k.os.trans h.kept.1,k.tape.trans h.kept.2.1,k.output.trans h.kept.2.2.1,fun i hi hne=>(k.block i hi).trans (h.kept.2.2.2 i hi hne)⟩,fun hp o ho=>?_⟩
 ·exact ⟨(k.cell hq).trans (h.other q hq hne).1,(k.frozen hq).trans (h.other q hq hne).2⟩
 ·exact ⟨(k.cell (p:=⟨p.block,o,none⟩) hp).trans (h.beside hp o ho).1,(k.frozen (p:=⟨p.block,o,none⟩) hp).trans (h.beside hp o ho).2⟩
theorem Leaves.alloc {p:Addr} {W w:World} (h:Leaves p W w) (o:Obj):Leaves p W (w.alloc o):=h.step ((new_after w o).mono h.size)
theorem Leaves.set {p:Addr} {W w:World} (h:Leaves p W w) {a:Addr} (ha:W.heap.size <= a.block) (v:Value):Leaves p W (w.setCell a v):=h.step ((Below.refl _ _).setCell ha v)
theorem Leaves.after {p q:Addr} {g:Bool} {W w w':World} (h:Leaves p W w) (a:After q g w w') (hq:W.heap.size <= q.block):Leaves p W w':=
 h.step (a.below _ _ (Below.refl _ _) hq h.size)
theorem Leaves.same {p:Addr} {g:Bool} {W w w':World} (h:Leaves p W w) (a:After p g w w'):Leaves p W w':=by
 refine ⟨Nat.le_trans h.size a.size,fun x hx hne=>?_,fun B w0 hb h1 h2=>a.below B w0 (h.below B w0 hb h1 h2) h1 (Nat.le_trans h2 h.size),⟨a.kept.1.trans h.kept.1,a.kept.2.1.trans h.kept.2.1,a.kept.2.2.1.trans h.kept.2.2.1,fun i hi hne=>(a.kept.2.2.2 i (Nat.lt_of_lt_of_le hi h.size) hne).trans (h.kept.2.2.2 i hi hne)⟩,fun hp o ho=>?_⟩
 ·have hlt:x.block < w.heap.size:=Nat.lt_of_lt_of_le hx h.size
  have:=a.other x hlt hne
  exact ⟨this.1.trans (h.other x hx hne).1,this.2.trans (h.other x hx hne).2⟩
 ·have:=a.beside (Nat.lt_of_lt_of_le hp h.size) o ho
  exact ⟨this.1.trans (h.beside hp o ho).1,this.2.trans (h.beside hp o ho).2⟩
theorem Leaves.done {p:Addr} {g:Bool} {W W':World} (h:Leaves p W W') (hc:W'.cell? p = some (.bool g)) (hf:W'.frozen? p = false):After p g W W':=⟨hc,hf,h.size,h.other,h.below,h.kept,h.beside⟩
structure V3 where
 x:Int
 y:Int
 z:Int
structure V4 where
 w:Int
 x:Int
 y:Int
 z:Int
@[reducible] def V3.val (v:V3):Value:=.agg #[.int .i64 v.x,.int .i64 v.y,.int .i64 v.z]
@[reducible] def V4.val (v:V4):Value:=.agg #[.int .i64 v.w,.int .i64 v.x,.int .i64 v.y,.int .i64 v.z]
def V3.zero:V3:=⟨0,0,0⟩
def V4.zero:V4:=⟨0,0,0,0⟩
end
section
open Go.RowKit Fx
inductive Shape where
 | is (v:Value)
 | ptr
 | row (n:Nat)
structure Made where
 i:Nat
 s:Nat
 cs:List Value
structure Plan where
 W:World
 N:Nat
 p:Addr
 fl:Addr
 g0:Bool
 bad:Bool
 f:Bool
 calls:List (Nat × Bool)
 tl:Nat
 st:Nat
 r:Nat
 res:List Value
 fixed:List (Addr × Value)
 made:List Made
structure Plan.Good (π:Plan):Prop where
 wn:π.W.heap.size <= π.N
 rr:π.res = [] \/ (π.W.heap.size <= π.r/\π.r < π.N/\π.fl.block ≠ π.r/\π.p.block ≠ π.r/\∀ c ∈ π.fixed,c.1.block ≠ π.r)
 fl0:π.fl = π.p \/ π.W.heap.size <= π.fl.block
 fl1:π.fl.block < π.N
 p0:π.fl = π.p \/ π.p.block < π.W.heap.size
 fx:∀ c ∈ π.fixed,c.1.block < π.N/\c.1.block ≠ π.fl.block/\c.1.block ≠ π.p.block
 badOf:π.bad = true->π.g0 = true \/ ∃ c ∈ π.calls,c.2 = true
 callBad:∀ c ∈ π.calls,c.2 = true->π.bad = true
def upd (γ:Nat->Nat) (i b:Nat):Nat->Nat:=fun j=>if j = i then b else γ j
section
variable {P:Program} {Q:Exit->Act->World->Prop} {D:Nat->Option Tmp} {A:Nat->Nat->Prop} {sh:Nat->Shape} {π:Plan} {a₀:Act}
end
end
section
open Go.RowKit Go.Shelf Fx
structure Bd where
 k:Int
 s:V3
 q:V4
 p:V3
 l:V3
 m:Int
 i:V3
def Bd.L (b:Bd) (R:List Value):List Value:=
 .int .i64 b.k :: .int .i64 b.s.x :: .int .i64 b.s.y :: .int .i64 b.s.z :: .int .i64 b.q.w :: .int .i64 b.q.x :: .int .i64 b.q.y :: .int .i64 b.q.z ::
 .int .i64 b.p.x :: .int .i64 b.p.y :: .int .i64 b.p.z :: .int .i64 b.l.x :: .int .i64 b.l.y :: .int .i64 b.l.z ::
 .int .i64 b.m :: .int .i64 b.i.x :: .int .i64 b.i.y :: .int .i64 b.i.z :: R
def CW (W:World) (b:Nat) (vs:List Value):Prop:=∀ i v,vs[i]? = some v->W.cell? ⟨b,i,none⟩ = some v/\W.frozen? ⟨b,i,none⟩ = false
section
variable {V:World} {p:Addr} {f:Bool} {cs:List (Nat × Bool)} {st:Nat} {S:World->World} {L:Nat->Bool} {w w':World} {i:Nat}
end
end
section
open Go.RowKit Fx
theorem Leaves.own {p:Addr} {W w:World} (h:Leaves p W w) (v:Value):Leaves p W (w.setCell p v):=by
 refine ⟨by simpa [World.setCell] using h.size,fun q hq hne=>?_,fun B w' hb h1 h2=>(h.below B w' hb h1 h2).setCell h1 v,⟨h.kept.1,h.kept.2.1,h.kept.2.2.1,fun i hi hne=>(Below.heap_setCell _ _ _ _ hne).trans (h.kept.2.2.2 i hi hne)⟩,fun hp o ho=>⟨(World.cell?_setCell_other _ _ _ _ (fun e=>ho (by cases p;exact ((Addr.mk.inj e).2.1).symm))).trans (h.beside hp o ho).1,by rw [show (w.setCell p v).frozen? ⟨p.block,o,none⟩ = w.frozen? ⟨p.block,o,none⟩ by simp [go_sem]];exact (h.beside hp o ho).2⟩⟩
 exact ⟨(World.cell?_of_block (w:=w) (Below.heap_setCell _ _ _ _ hne)).trans (h.other q hq hne).1,(World.frozen?_of_block (w:=w) (Below.heap_setCell _ _ _ _ hne)).trans (h.other q hq hne).2⟩
end
section
open Go.RowKit Fx
def Step3 (f:Bool) (a b c:Option Int) (x y z:Int) (g:Bool):Prop:=
 x = cond (a.isNone || b.isNone || c.isNone) 0 (a.getD 0)/\y = cond (a.isNone || b.isNone || c.isNone) 0 (b.getD 0)/\z = cond (a.isNone || b.isNone || c.isNone) 0 (c.getD 0)/\g = (f || (a.isNone || b.isNone || c.isNone))
theorem row3 {w:World} {b:Nat} {x y z:Int} (h0:w.cell? ⟨b,0,none⟩ = some (.int .i64 x)) (h1:w.cell? ⟨b,1,none⟩ = some (.int .i64 y)) (h2:w.cell? ⟨b,2,none⟩ = some (.int .i64 z)):NRow w (some ⟨b,0,none⟩) [x,y,z]:=
 Or.inr ⟨b,0,rfl,fun k hk=>by
  match k,hk with
  | 0,_=>exact h0
  | 1,_=>exact h1
  | 2,_=>exact h2⟩
end
section
open Go.RowKit Fx
def rowsBad (q0 q1 q2 q3:Int):Bool:=(((add q0 q0).isNone || (add q1 q1).isNone || (add q2 q2).isNone || (add q3 q3).isNone) || ((sub 0 q0).isNone || (sub 0 q1).isNone || (sub 0 q2).isNone || (sub 0 q3).isNone)) || ([(dot [((add q2 q2).getD 0),((add q3 q3).getD 0)] [q2,q3]).isNone,(sub (4294967296) ((dot [((add q2 q2).getD 0),((add q3 q3).getD 0)] [q2,q3]).getD 0)).isNone,(dot [((add q1 q1).getD 0),((add q0 q0).getD 0)] [q2,((sub 0 q3).getD 0)]).isNone,(dot [((add q1 q1).getD 0),((add q0 q0).getD 0)] [q3,q2]).isNone,(dot [((add q1 q1).getD 0),((add q0 q0).getD 0)] [q2,q3]).isNone,(dot [((add q1 q1).getD 0),((add q3 q3).getD 0)] [q1,q3]).isNone,(sub (4294967296) ((dot [((add q1 q1).getD 0),((add q3 q3).getD 0)] [q1,q3]).getD 0)).isNone,(dot [((add q2 q2).getD 0),((add q0 q0).getD 0)] [q3,((sub 0 q1).getD 0)]).isNone,(dot [((add q1 q1).getD 0),((add q0 q0).getD 0)] [q3,((sub 0 q2).getD 0)]).isNone,(dot [((add q2 q2).getD 0),((add q0 q0).getD 0)] [q3,q1]).isNone,(dot [((add q1 q1).getD 0),((add q2 q2).getD 0)] [q1,q2]).isNone,(sub (4294967296) ((dot [((add q1 q1).getD 0),((add q2 q2).getD 0)] [q1,q2]).getD 0)).isNone]:List Bool).any id
def rowsAt0 (q0 q1 q2 q3:Int):Int:=(sub (4294967296) ((dot [((add q2 q2).getD 0),((add q3 q3).getD 0)] [q2,q3]).getD 0)).getD 0
def rowsAt1 (q0 q1 q2 q3:Int):Int:=(dot [((add q1 q1).getD 0),((add q0 q0).getD 0)] [q2,((sub 0 q3).getD 0)]).getD 0
def rowsAt2 (q0 q1 q2 q3:Int):Int:=(dot [((add q1 q1).getD 0),((add q0 q0).getD 0)] [q3,q2]).getD 0
def rowsAt3 (q0 q1 q2 q3:Int):Int:=(dot [((add q1 q1).getD 0),((add q0 q0).getD 0)] [q2,q3]).getD 0
def rowsAt4 (q0 q1 q2 q3:Int):Int:=(sub (4294967296) ((dot [((add q1 q1).getD 0),((add q3 q3).getD 0)] [q1,q3]).getD 0)).getD 0
def rowsAt5 (q0 q1 q2 q3:Int):Int:=(dot [((add q2 q2).getD 0),((add q0 q0).getD 0)] [q3,((sub 0 q1).getD 0)]).getD 0
def rowsAt6 (q0 q1 q2 q3:Int):Int:=(dot [((add q1 q1).getD 0),((add q0 q0).getD 0)] [q3,((sub 0 q2).getD 0)]).getD 0
def rowsAt7 (q0 q1 q2 q3:Int):Int:=(dot [((add q2 q2).getD 0),((add q0 q0).getD 0)] [q3,q1]).getD 0
def rowsAt8 (q0 q1 q2 q3:Int):Int:=(sub (4294967296) ((dot [((add q1 q1).getD 0),((add q2 q2).getD 0)] [q1,q2]).getD 0)).getD 0
end
section
open Go.RowKit Go.Shelf
structure M9 where
 a0:Int
 a1:Int
 a2:Int
 a3:Int
 a4:Int
 a5:Int
 a6:Int
 a7:Int
 a8:Int
def M9.v (m:M9):Value:=.agg #[.int .i64 m.a0,.int .i64 m.a1,.int .i64 m.a2,.int .i64 m.a3,.int .i64 m.a4,.int .i64 m.a5,.int .i64 m.a6,.int .i64 m.a7,.int .i64 m.a8]
def opt3 (a b c:Option Int):Option Pt:=match a,b,c with
 | some x,some y,some z=>some ⟨x,y,z⟩
 | _,_,_=>none
def M9.turn (m:M9) (x:Pt):Option Pt:=opt3 (Fx.dot [m.a0,m.a1,m.a2] [x.x,x.y,x.z]) (Fx.dot [m.a3,m.a4,m.a5] [x.x,x.y,x.z]) (Fx.dot [m.a6,m.a7,m.a8] [x.x,x.y,x.z])
def Pt.addO (x y:Pt):Option Pt:=opt3 (Fx.add x.x y.x) (Fx.add x.y y.y) (Fx.add x.z y.z)
def Pt.times (p:Pt) (n:Int):Pt:=⟨IntKind.i64.wrap (p.x * n),IntKind.i64.wrap (p.y * n),IntKind.i64.wrap (p.z * n)⟩
theorem step3_pt {f g:Bool} {a b c:Option Int} {x y z:Int} (h:Step3 f a b c x y z g):(⟨x,y,z⟩:Pt) = (opt3 a b c).getD Pt.O/\g = (f || (opt3 a b c).isNone):=by
 obtain ⟨h1,h2,h3,h4⟩:=h
 subst h1 h2 h3 h4
 cases a <;> cases b <;> cases c <;> simp [opt3,Pt.O]
theorem Cells.after {W W':World} {b:Nat} {u:Value} {vs:List Value} {g:Bool} (h:Cells W b (u :: vs)) (A:After ⟨b,0,none⟩ g W W'):Cells W' b (.bool g :: vs):=by
 intro i v e
 have hb:b < W.heap.size:=World.block_lt_of_cell? _ _ (h 0 u rfl).1
 cases i with
 | zero=>simp at e;subst e;exact ⟨A.cell,A.frozen⟩
 | succ i =>
  obtain ⟨h1,h2⟩:=h (i + 1) v (by simpa using e)
  obtain ⟨a1,a2⟩:=A.beside hb (i + 1) (by simp)
  exact ⟨a1.trans h1,a2.trans h2⟩
theorem Cells.beside {W W':World} {b b':Nat} {vs:List Value} {g:Bool} (h:Cells W b vs) (A:After ⟨b',0,none⟩ g W W') (hne:b ≠ b'):Cells W' b vs:=fun i v e =>
 ⟨A.cellOf (h i v e).1 hne,A.frozenOf (h i v e).1 (h i v e).2 hne⟩
theorem Box3.after {W W':World} {b b':Nat} {q:Pt} {g:Bool} (h:Box3 W b q) (A:After ⟨b',0,none⟩ g W W') (hne:b ≠ b'):Box3 W' b q:=
 ⟨A.cellOf h.c0 hne,A.cellOf h.c1 hne,A.cellOf h.c2 hne,A.frozenOf h.c0 h.f0 hne,A.frozenOf h.c1 h.f1 hne,A.frozenOf h.c2 h.f2 hne⟩
theorem RV.Pend.after {W0:World} {T i j:Nat} {fin:Array Value} {γ:Nat->Value} {L:Nat->Bool} {w w':World} {b:Nat} {g:Bool} (h:RV.Pend W0 T i j fin γ L w) (A:After ⟨b,0,none⟩ g w w') (hb:b < W0.heap.size):RV.Pend W0 T i j fin γ L w':=by
 intro hl
 obtain ⟨c,cs,h1,h2,h3,h4,h5⟩:=h hl
 exact ⟨c,cs,h1,h2,(A.kept.2.2.2 c (Array.getElem?_eq_some_iff.1 h3).1 (by show c ≠ b;omega)).trans h3,h4,h5⟩
theorem arr3' {cs:Array Value} (h:cs.size = 3):∃ u0 u1 u2,cs = #[u0,u1,u2]:=by
 obtain ⟨l⟩:=cs
 match l,h with
 | [a,b,c],_=>exact ⟨a,b,c,rfl⟩
def M9.at1 (m:M9) (p:Pt):Pt:=(m.turn (p.times 1048576)).getD Pt.O
def M9.at2 (m:M9) (t p:Pt):Pt:=((m.at1 p).addO t).getD Pt.O
def Pt.grain (p:Pt):Pt:=⟨p.x / 1048576,p.y / 1048576,p.z / 1048576⟩
def M9.ptV (m:M9) (t p:Pt):Pt:=(m.at2 t p).grain
def M9.ptB (m:M9) (t p:Pt):Bool:=(m.turn (p.times 1048576)).isNone || ((m.at1 p).addO t).isNone
structure Q4 where
 w:Int
 x:Int
 y:Int
 z:Int
def rowsB (q:Q4):Bool:=rowsBad q.w q.x q.y q.z
def rowsM (q:Q4):M9:=⟨cond (rowsB q) 0 (rowsAt0 q.w q.x q.y q.z),cond (rowsB q) 0 (rowsAt1 q.w q.x q.y q.z),cond (rowsB q) 0 (rowsAt2 q.w q.x q.y q.z),cond (rowsB q) 0 (rowsAt3 q.w q.x q.y q.z),cond (rowsB q) 0 (rowsAt4 q.w q.x q.y q.z),cond (rowsB q) 0 (rowsAt5 q.w q.x q.y q.z),cond (rowsB q) 0 (rowsAt6 q.w q.x q.y q.z),cond (rowsB q) 0 (rowsAt7 q.w q.x q.y q.z),cond (rowsB q) 0 (rowsAt8 q.w q.x q.y q.z)⟩
def poseV (t:Pt) (q:Q4):Value:=.agg #[.int .i64 t.x,.int .i64 t.y,.int .i64 t.z,.int .i64 q.w,.int .i64 q.x,.int .i64 q.y,.int .i64 q.z]
end
section
open Go.RowKit Go.Shelf
attribute [local go_sem] Oper.semAt_some
theorem row_turn {A B:World} {base e size k:Nat} {u:Value} {xs:List Value} {row:Option Nat} (h:A.ownsRow base e size u k xs) (hg:A.grownBy B row) (hr:∀ r,row = some r->r < base):B.ownsRow base e size u k xs:=by
 refine h.kept hg ?_
 cases e1:u.ownBlock with
 | none=>exact .inl rfl
 | some b=>exact .inr (fun e=>by have:=(h.lt b e1).1;have:=hr b (by rw [<- e]);omega)
def firsts (enc:Nat->Pt) (k:Nat):List Pt:=(List.range k).map enc
theorem firsts_succ (enc:Nat->Pt) (k:Nat):firsts enc (k + 1) = firsts enc k ++ [enc k]:=by simp [firsts,List.range_succ]
theorem firsts_length (enc:Nat->Pt) (k:Nat):(firsts enc k).length = k:=by simp [firsts]
theorem firsts_map (Ls:List Pt) (f:Pt->Pt):firsts (fun k=>f (pt Ls k)) Ls.length = Ls.map f:=by
 unfold firsts
 apply List.ext_getElem
 ·simp
 ·intro i h1 h2
  simp at h1 h2
  simp [pt,h2]
end
section
open Go.RowKit Go.Shelf
theorem win_in (p:Pt) (m:Int) (h1:0 <= m) (h2:m <= 9223372036854775807):p.win m = p.inB m:=by
 have e:IntKind.i64.wrap (-m) = -m:=by rw [IntKind.wrap_i64];omega
 unfold Pt.win Pt.le
 rw [e,Bool.eq_iff_iff,Pt.inB_iff]
 simp only [Bool.and_eq_true,decide_eq_true_eq]
 omega
def longF:Nat->Pt->Pt
 | 0,p=>p
 | n + 1,p=>if p.inB 524288 then longF n (p.plus p) else p
def Pt.long (p:Pt):Pt:=if p = Pt.O then p else longF 20 p
def Pt.big (p:Pt) (n:Nat):Prop:=2 ^ n <= p.x.natAbs \/ 2 ^ n <= p.y.natAbs \/ 2 ^ n <= p.z.natAbs
theorem big_lt {q:Pt} {g:Nat} (hq:q.inB 524288 = true) (hb:q.big (20 - g)):1 <= g:=by
 rw [Pt.inB_iff] at hq
 rcases Nat.eq_zero_or_pos g with rfl | h
 ·unfold Pt.big at hb
  simp only [Nat.sub_zero,Nat.reducePow] at hb
  omega
 ·exact h
theorem long_step {q:Pt} {g:Nat} (hq:q.inB 524288 = true) (hb:q.big (20 - (g + 1))) (hg:g + 1 <= 20):longF (g + 1) q = longF g (q.plus q)/\(q.plus q).big (20 - g)/\q.plus q = ⟨2 * q.x,2 * q.y,2 * q.z⟩:=by
 have hI:=(Pt.inB_iff _ _).1 hq
 have e:q.plus q = ⟨2 * q.x,2 * q.y,2 * q.z⟩:=by
  unfold Pt.plus
  congr 1
  ·rw [IntKind.wrap_i64];omega
  ·rw [IntKind.wrap_i64];omega
  ·rw [IntKind.wrap_i64];omega
 refine ⟨by simp [longF,hq],?_,e⟩
 rw [e]
 unfold Pt.big at *
 have:20 - g = (20 - (g + 1)) + 1:=by omega
 rw [this,Nat.pow_succ]
 dsimp only
 omega
theorem big_zero {p:Pt} (h:p ≠ Pt.O):p.big 0:=by
 unfold Pt.big
 apply Classical.byContradiction
 intro hn
 apply h
 obtain ⟨x,y,z⟩:=p
 simp only [Nat.pow_zero] at hn
 have h1:x = 0:=by omega
 have h2:y = 0:=by omega
 have h3:z = 0:=by omega
 rw [h1,h2,h3];rfl
def M9.dirT (m:M9) (p:Pt):Pt:=(m.turn (p.long.times 4096)).getD Pt.O
def Pt.quo (p:Pt) (n:Int):Pt:=⟨wrap64 (p.x.tdiv n),wrap64 (p.y.tdiv n),wrap64 (p.z.tdiv n)⟩
def M9.dirV (m:M9) (p:Pt):Pt:=((m.dirT p).quo 4096).short
def M9.dirB (m:M9) (p:Pt):Bool:=(m.turn (p.long.times 4096)).isNone
def M9.dirs (m:M9) (A:List Pt):List Pt:=(A.map m.dirV).filter (fun p=>decide (p ≠ Pt.O))
def dirsK (enc:Nat->Pt) (k:Nat):List Pt:=(firsts enc k).filter (fun p=>decide (p ≠ Pt.O))
theorem dirsK_yes (enc:Nat->Pt) (k:Nat) (h:enc k ≠ Pt.O):dirsK enc (k + 1) = dirsK enc k ++ [enc k]:=by unfold dirsK;rw [firsts_succ,List.filter_append];simp [h]
theorem dirsK_no (enc:Nat->Pt) (k:Nat) (h:enc k = Pt.O):dirsK enc (k + 1) = dirsK enc k:=by unfold dirsK;rw [firsts_succ,List.filter_append];simp [h]
theorem dirsK_length (enc:Nat->Pt) (k:Nat):(dirsK enc k).length <= k:=by have:=List.length_filter_le (fun p=>decide (p ≠ Pt.O)) (firsts enc k);rw [firsts_length] at this;exact this
def anyK (f:Nat->Bool):Nat->Bool
 | 0=>false
 | k + 1=>anyK f k || f k
theorem anyK_any (Ls:List Pt) (f:Pt->Bool):anyK (fun k=>f (pt Ls k)) Ls.length = Ls.any f:=by
 have key:∀ k,k <= Ls.length->anyK (fun k=>f (pt Ls k)) k = (Ls.take k).any f:=by
  intro k
  induction k with
  | zero=>intro _;simp [anyK]
  | succ k ih =>
   intro hk
   rw [List.take_succ_eq_append_getElem (by omega),List.any_append,<- ih (by omega)]
   simp [anyK,pt,List.getElem?_eq_getElem (show k < Ls.length by omega)]
 rw [key _ (Nat.le_refl _),List.take_length]
theorem after_grown {W W':World} {b:Nat} {g:Bool} (A:After ⟨b,0,none⟩ g W W'):W.grownBy W' (some b):=⟨A.kept.1,A.kept.2.1,A.kept.2.2.1,A.size,fun k hk hn=>A.kept.2.2.2 k hk (fun e=>hn (by rw [e]))⟩
end
section
open Go.RowKit Go.Shelf
attribute [local go_sem] Oper.semAt_some
def Bx.l (b:Bx):List Value:=[.int .i64 b.lo.x,.int .i64 b.lo.y,.int .i64 b.lo.z,.int .i64 b.hi.x,.int .i64 b.hi.y,.int .i64 b.hi.z]
end
section
open Go.RowKit Go.Shelf
theorem Lies.grown {A B:World} {v:Value} {Ls:List Pt} {fb:Nat} (h:Lies A v Ls) (hg:A.grownBy B (some fb)) (hne:∀ q n c,v = .slice (some q) n c->Ls ≠ []->q.block ≠ fb):Lies B v Ls:=by
 obtain ⟨o,cap,e,h1,h2,h3⟩:=h.form
 refine ⟨o,cap,e,h1,h2,fun i hi=>?_⟩
 obtain ⟨g,off,e',a,b,c⟩:=h3 i hi
 have hf:g ≠ fb:=hne ⟨g,off,none⟩ _ _ (by rw [e,e']) (fun e0=>by rw [e0] at hi;simp at hi)
 have hbl:B.heap[g]? = A.heap[g]?:=hg.block g (World.block_lt_of_cell? _ _ a) (fun e=>hf (by simpa using e))
 exact ⟨g,off,e',(World.cell?_of_block (w:=A) hbl).trans a,(World.cell?_of_block (w:=A) hbl).trans b,(World.cell?_of_block (w:=A) hbl).trans c⟩
theorem Lies.lt {A:World} {Ls:List Pt} {q:Addr} {n c:Nat} (h:Lies A (.slice (some q) n c) Ls) (h0:Ls ≠ []):q.block < A.heap.size:=by
 obtain ⟨o,cap,e,h1,h2,h3⟩:=h.form
 obtain ⟨g,off,e',a,_⟩:=h3 0 (List.length_pos_iff.2 h0)
 simp only [Value.slice.injEq] at e
 rw [<- e.1] at e'
 cases e'
 exact World.block_lt_of_cell? _ _ a
end
section
open Go.RowKit Go.Shelf
def placeableP (P A E:List Pt):Bool:=decide (0 < P.length) && (P.all (fun p=>p.win 1048576) && (A.all (fun p=>p.win 1048576) && E.all (fun p=>p.win 1048576)))
section
variable {V:World} {cb fb:Nat} {pv av ev:Value} {r:Int} {f b1 b2 b3:Bool} {m:M9} {t:Pt} {P A E:List Pt} {g4 g5 g9 g13 g16 g17:Value} {l4 l5 l9 l13 l16 l17 l18:Bool} {w w':World}
end
theorem arr4' {cs:Array Value} (h:cs.size = 4):∃ u0 u1 u2 u3,cs = #[u0,u1,u2,u3]:=by
 obtain ⟨l⟩:=cs
 match l,h with
 | [a,b,c,d],_=>exact ⟨a,b,c,d,rfl⟩
end
section
open Go.RowKit Go.Shelf
def badP (t:Pt) (q:Q4) (P A E:List Pt):Bool:=rowsB q || P.any ((rowsM q).ptB t) || A.any (rowsM q).dirB || E.any (rowsM q).dirB
def nearP (P:List Pt):Bool:=P.all fun p=>p.win 8388608
def placeOk (t:Pt) (q:Q4) (P A E:List Pt):Bool:=placeableP P A E && (!(badP t q P A E) && nearP (P.map ((rowsM q).ptV t)))
end
section
open Go.RowKit Fx
theorem neg_is (y:Int):((sub 0 y).isNone = true/\great y = true/\great (-y) = true) \/ ((sub 0 y) = some (-y)/\great y = false/\great (-y) = false):=by
 cases h:great y
 ·have h':=(not_great y).1 h
  have g:great (-y) = false:=(not_great _).2 (by omega)
  refine Or.inr ⟨?_,rfl,g⟩
  have z:great 0 = false:=by decide
  have e:(0:Int) - y = -y:=by omega
  simp [sub,h,z,Fx.told,e,g]
 ·have h':=(great_iff y).1 h
  refine Or.inl ⟨?_,rfl,(great_iff _).2 (by omega)⟩
  simp [sub,h]
end
section
open Go.RowKit Fx
theorem in_square {x n R:Int} (hR:0 <= R) (hn:0 <= n) (h:x * x + R < (n + 1) * (n + 1)):-n <= x/\x <= n:=by
 constructor
 ·apply Int.not_lt.1
  intro hlt
  have:=Int.mul_le_mul (show n + 1 <= -x by omega) (show n + 1 <= -x by omega) (by omega) (by omega)
  rw [Int.neg_mul_neg] at this
  omega
 ·apply Int.not_lt.1
  intro hlt
  have:=Int.mul_le_mul (show n + 1 <= x by omega) (show n + 1 <= x by omega) (by omega) (by omega)
  omega
theorem sq_nonneg (x:Int):0 <= x * x:=by
 rcases Int.le_total 0 x with g | g
 ·exact Int.mul_nonneg g g
 ·exact Int.mul_nonneg_of_nonpos_of_nonpos g g
end
section
open Go.RowKit Fx
def wholeBad (q0 q1 q2 q3:Int):Bool:=decide (((norm [q0,q1,q2,q3]).getD 0) < 2147483648) || ((ratio q0 4294967296 ((norm [q0,q1,q2,q3]).getD 0)).isNone || (ratio q1 4294967296 ((norm [q0,q1,q2,q3]).getD 0)).isNone || (ratio q2 4294967296 ((norm [q0,q1,q2,q3]).getD 0)).isNone || (ratio q3 4294967296 ((norm [q0,q1,q2,q3]).getD 0)).isNone)
end
section
open Go.RowKit Fx
namespace WM
theorem mul_in {a b A B:Int} (ha:-A <= a/\a <= A) (hb:-B <= b/\b <= B):-(A * B) <= a * b/\a * b <= A * B:=by
 have h1:=Int.mul_nonneg (show 0 <= A - a by omega) (show 0 <= B + b by omega)
 have h2:=Int.mul_nonneg (show 0 <= A + a by omega) (show 0 <= B - b by omega)
 have h3:=Int.mul_nonneg (show 0 <= A - a by omega) (show 0 <= B - b by omega)
 have h4:=Int.mul_nonneg (show 0 <= A + a by omega) (show 0 <= B + b by omega)
 simp only [Int.add_mul,Int.sub_mul,Int.mul_add,Int.mul_sub] at h1 h2 h3 h4
 omega
theorem norm4_some {x y z u s:Int} (h:norm [x,y,z,u] = some s):great x = false/\great y = false/\great z = false/\great u = false/\great s = false/\0 <= s/\s * s <= x * x + (y * y + (z * z + u * u))/\x * x + (y * y + (z * z + u * u)) < (s + 1) * (s + 1):=by
 unfold norm at h
 split at h
 ·simp at h
 ·split at h
  ·simp at h
  ·rename_i ha
   unfold Fx.told at h
   split at h
   ·simp at h
   ·rename_i hg
    have hg':great _ = false:=Bool.eq_false_iff.2 hg
    simp only [Option.some.injEq] at h
    rw [h] at hg'
    obtain ⟨p,q⟩:=isq_is (prods [x,y,z,u] [x,y,z,u]).toNat
    have h0:=prods_self [x,y,z,u]
    generalize hr:isq (prods [x,y,z,u] [x,y,z,u]).toNat = r at *
    have p':=Int.ofNat_le.2 p
    have q':=Int.ofNat_lt.2 q
    rw [Int.toNat_of_nonneg h0,Int.natCast_mul] at p' q'
    rw [Int.natCast_add] at q'
    simp only [prods,Int.add_zero] at p' q'
    simp only [List.any_cons,List.any_nil,Bool.or_false,Bool.not_eq_true,Bool.or_eq_false_iff] at ha
    subst h
    exact ⟨ha.1,ha.2.1,ha.2.2.1,ha.2.2.2,hg',by omega,p',q'⟩
theorem part4 {x n u t:Int} (hn:0 < n) (ht:-t <= x/\x <= t) (htn:t <= n) (hu:u = x * 4294967296 / n):-4294967296 <= u/\u <= 4294967296/\n * n * (u * u) <= 18446744073709551616 * (x * x) + 8589934592 * (t * n) + n * n/\18446744073709551616 * (x * x) <= n * n * (u * u) + 8589934592 * (t * n):=by
 have hd:=div_is (x * 4294967296) n (by omega)
 rw [<- hu] at hd
 obtain ⟨e,he⟩:∃ e,e = x * 4294967296 - u * n:=⟨_,rfl⟩
 have e0:0 <= e:=by omega
 have e1:e < n:=by have:=hd.2;rw [Int.add_mul] at this;omega
 have un:u * n = x * 4294967296 - e:=by omega
 have sq:n * n * (u * u) = 18446744073709551616 * (x * x) - 8589934592 * (x * e) + e * e:=by
  have:n * n * (u * u) = (u * n) * (u * n):=by grind
  rw [this,un];grind
 have b1:=mul_in (a:=x) (b:=e) (A:=t) (B:=n) ht (by omega)
 have b3:e * e <= n * n:=Int.mul_le_mul (by omega) (by omega) e0 (by omega)
 have b4:0 <= e * e:=Int.mul_nonneg e0 e0
 refine ⟨?_,?_,by omega,by omega⟩
 ·apply Int.not_lt.1
  intro hlt
  have:=Int.mul_le_mul_of_nonneg_right (show u + 1 <= -4294967296 by omega) (show 0 <= n by omega)
  have:=hd.2
  omega
 ·apply Int.not_lt.1
  intro hlt
  have:=Int.mul_le_mul_of_nonneg_right (show 4294967297 <= u by omega) (show 0 <= n by omega)
  have:=hd.1
  omega
theorem size_of (x:Int):∃ t:Int,0 <= t/\(-t <= x/\x <= t)/\t * t = x * x/\(t = x \/ t = -x):=by
 rcases Int.le_total 0 x with g | g
 ·exact ⟨x,g,⟨by omega,by omega⟩,rfl,Or.inl rfl⟩
 ·exact ⟨-x,by omega,⟨by omega,by omega⟩,by rw [Int.neg_mul_neg],Or.inr rfl⟩
theorem cauchy4 (a b c d:Int):(a + b + c + d) * (a + b + c + d) <= 4 * (a * a + (b * b + (c * c + d * d))):=by
 have h1:=sq_nonneg (a - b)
 have h2:=sq_nonneg (a - c)
 have h3:=sq_nonneg (a - d)
 have h4:=sq_nonneg (b - c)
 have h5:=sq_nonneg (b - d)
 have h6:=sq_nonneg (c - d)
 have e:4 * (a * a + (b * b + (c * c + d * d))) - (a + b + c + d) * (a + b + c + d) = (a - b) * (a - b) + (a - c) * (a - c) + (a - d) * (a - d) + (b - c) * (b - c) + (b - d) * (b - d) + (c - d) * (c - d):=by grind
 omega
theorem whole_long {x y z s n:Int} (h:norm [x,y,z,s] = some n) (hn:2147483648 <= n):∃ a b c d l,ratio x 4294967296 n = some a/\ratio y 4294967296 n = some b/\ratio z 4294967296 n = some c/\ratio s 4294967296 n = some d/\norm [a,b,c,d] = some l/\4294967292 <= l/\l <= 4294967300 /\
  (-4294967296 <= a/\a <= 4294967296)/\(-4294967296 <= b/\b <= 4294967296)/\(-4294967296 <= c/\c <= 4294967296)/\(-4294967296 <= d/\d <= 4294967296) /\
  -34359738376 <= a * a + (b * b + (c * c + d * d)) - 18446744073709551616/\a * a + (b * b + (c * c + d * d)) - 18446744073709551616 <= 34359738376:=by
 obtain ⟨gx,gy,gz,gs,gn,n0,h1,h2⟩:=norm4_some h
 have px:=sq_nonneg x
 have py:=sq_nonneg y
 have pz:=sq_nonneg z
 have ps:=sq_nonneg s
 have ix:=in_square (x:=x) (R:=y * y + (z * z + s * s)) (by omega) n0 (by omega)
 have iy:=in_square (x:=y) (R:=x * x + (z * z + s * s)) (by omega) n0 (by omega)
 have iz:=in_square (x:=z) (R:=x * x + (y * y + s * s)) (by omega) n0 (by omega)
 have is:=in_square (x:=s) (R:=x * x + (y * y + z * z)) (by omega) n0 (by omega)
 obtain ⟨tx,tx0,tx1,tx2,tx3⟩:=size_of x
 obtain ⟨ty,ty0,ty1,ty2,ty3⟩:=size_of y
 obtain ⟨tz,tz0,tz1,tz2,tz3⟩:=size_of z
 obtain ⟨ts,ts0,ts1,ts2,ts3⟩:=size_of s
 have hx9:tx <= n:=by clear ty3 tz3 ts3;omega
 have hy9:ty <= n:=by clear tx3 tz3 ts3;omega
 have hz9:tz <= n:=by clear tx3 ty3 ts3;omega
 have hs9:ts <= n:=by clear tx3 ty3 tz3;omega
 clear tx3 ty3 tz3 ts3
 have kx:=part4 (u:=x * 4294967296 / n) (by omega) tx1 hx9 rfl
 have ky:=part4 (u:=y * 4294967296 / n) (by omega) ty1 hy9 rfl
 have kz:=part4 (u:=z * 4294967296 / n) (by omega) tz1 hz9 rfl
 have ks:=part4 (u:=s * 4294967296 / n) (by omega) ts1 hs9 rfl
 have one:∀ t:Int,great t = false->-4294967296 <= t * 4294967296 / n/\t * 4294967296 / n <= 4294967296->ratio t 4294967296 n = some (t * 4294967296 / n):=by
  intro t gt hb
  have g1:great 4294967296 = false:=by decide
  have g2:great (t * 4294967296 / n) = false:=(not_great _).2 ⟨Int.le_trans (by omega) hb.1,Int.le_trans hb.2 (by omega)⟩
  unfold ratio fl
  rw [if_neg (by omega:¬ n = 0),gt,g1,gn,if_neg (by omega:¬ n < 0)]
  simp [Fx.told,g2]
 have r0:=one x gx ⟨kx.1,kx.2.1⟩
 have r1:=one y gy ⟨ky.1,ky.2.1⟩
 have r2:=one z gz ⟨kz.1,kz.2.1⟩
 have r3:=one s gs ⟨ks.1,ks.2.1⟩
 generalize x * 4294967296 / n = a at *
 generalize y * 4294967296 / n = b at *
 generalize z * 4294967296 / n = c at *
 generalize s * 4294967296 / n = d at *
 clear one
 have ga:great a = false:=(not_great _).2 (by omega)
 have gb:great b = false:=(not_great _).2 (by omega)
 have gc:great c = false:=(not_great _).2 (by omega)
 have gd:great d = false:=(not_great _).2 (by omega)
 obtain ⟨T,hT⟩:∃ T,T = tx + ty + tz + ts:=⟨_,rfl⟩
 have hc:=cauchy4 tx ty tz ts
 rw [<- hT,tx2,ty2,tz2,ts2] at hc
 have h3:(n + 1) * (n + 1) = n * n + 2 * n + 1:=by grind
 have hT1:T <= 2 * n + 1:=by
  apply Int.not_lt.1
  intro hlt
  have:=Int.mul_le_mul (show 2 * (n + 1) <= T by omega) (show 2 * (n + 1) <= T by omega) (by omega) (by omega)
  have e:2 * (n + 1) * (2 * (n + 1)) = 4 * ((n + 1) * (n + 1)):=by grind
  omega
 have hTn:T * n <= (2 * n + 1) * n:=Int.mul_le_mul_of_nonneg_right hT1 n0
 have hTn':T * n = tx * n + ty * n + tz * n + ts * n:=by rw [hT];grind
 have e1:(2 * n + 1) * n = 2 * (n * n) + n:=by grind
 have nn:2147483648 * n <= n * n:=Int.mul_le_mul_of_nonneg_right hn n0
 have np:0 < n * n:=Int.mul_pos (by omega) (by omega)
 obtain ⟨S,hS⟩:∃ S,S = a * a + (b * b + (c * c + d * d)):=⟨_,rfl⟩
 have pa:=sq_nonneg a
 have pb:=sq_nonneg b
 have pc:=sq_nonneg c
 have pd:=sq_nonneg d
 have S0:0 <= S:=by omega
 have hnS:n * n * S = n * n * (a * a) + (n * n * (b * b) + (n * n * (c * c) + n * n * (d * d))):=by rw [hS,Int.mul_add,Int.mul_add,Int.mul_add]
 rw [h3] at h2
 clear hc tx2 ty2 tz2 ts2
 have up:n * n * S <= n * n * 18446744108069289992:=by omega
 have lo:n * n * 18446744056529682428 <= n * n * S:=by omega
 have up':S <= 18446744108069289992:=Int.le_of_mul_le_mul_left up np
 have lo':18446744056529682428 <= S:=Int.le_of_mul_le_mul_left lo np
 have hpr:prods [a,b,c,d] [a,b,c,d] = S:=by simp only [prods,Int.add_zero,hS]
 obtain ⟨p,q⟩:=isq_is S.toNat
 obtain ⟨l,hl⟩:∃ l:Nat,l = isq S.toNat:=⟨_,rfl⟩
 rw [<- hl] at p q
 have p':=Int.ofNat_le.2 p
 have q':=Int.ofNat_lt.2 q
 rw [Int.toNat_of_nonneg S0,Int.natCast_mul] at p' q'
 rw [Int.natCast_add] at q'
 have l1:(4294967292:Int) <= l:=by
  apply Int.not_lt.1
  intro hlt
  have:=Int.mul_le_mul (show (l:Int) + ((1:Nat):Int) <= 4294967292 by omega) (show (l:Int) + ((1:Nat):Int) <= 4294967292 by omega) (by omega) (by omega)
  omega
 have l2:(l:Int) <= 4294967300:=by
  apply Int.not_lt.1
  intro hlt
  have:=Int.mul_le_mul (show (4294967301:Int) <= l by omega) (show (4294967301:Int) <= l by omega) (by omega) (by omega)
  omega
 refine ⟨a,b,c,d,l,r0,r1,r2,r3,?_,l1,l2,⟨kx.1,kx.2.1⟩,⟨ky.1,ky.2.1⟩,⟨kz.1,kz.2.1⟩,⟨ks.1,ks.2.1⟩,by omega,by omega⟩
 have gl:great (l:Int) = false:=(not_great _).2 (by omega)
 unfold norm
 rw [if_neg (by simp),hpr,<- hl]
 simp [ga,gb,gc,gd,Fx.told,gl]
theorem dot2 {a b c d:Int} (ha:-8589934592 <= a/\a <= 8589934592) (hb:-8589934592 <= b/\b <= 8589934592) (hc:-4294967296 <= c/\c <= 4294967296) (hd:-4294967296 <= d/\d <= 4294967296) :
  ∃ r:Int,dot [a,b] [c,d] = some r/\4294967296 * r <= a * c + b * d/\a * c + b * d < 4294967296 * r + 4294967296/\-17179869184 <= r/\r <= 17179869184:=by
 have k1:=mul_in ha hc
 have k2:=mul_in hb hd
 have hv:=div_is (a * c + b * d) 4294967296 (by omega)
 have e:prods [a,b] [c,d] / 4294967296 = (a * c + b * d) / 4294967296:=by simp only [prods,Int.add_zero]
 refine ⟨(a * c + b * d) / 4294967296,?_,by omega,by omega,by omega,by omega⟩
 have g1:[a,b].any great = false:=by simp [(not_great a).2 (by omega),(not_great b).2 (by omega)]
 have g2:[c,d].any great = false:=by simp [(not_great c).2 (by omega),(not_great d).2 (by omega)]
 have g3:great ((a * c + b * d) / 4294967296) = false:=(not_great _).2 (by omega)
 unfold dot
 rw [if_neg (by simp),if_neg (by simp),g1,g2,e]
 simp [Fx.told,g3]
theorem add2 {q:Int} (h:-4294967296 <= q/\q <= 4294967296):add q q = some (2 * q):=by
 unfold add
 rw [(not_great q).2 (by omega),show q + q = 2 * q by omega]
 simp [Fx.told,(not_great (2 * q)).2 (by omega)]
theorem sub0 {q:Int} (h:-4294967296 <= q/\q <= 4294967296):sub 0 q = some (-q):=by
 unfold sub
 rw [(not_great q).2 (by omega),show (0:Int) - q = -q by omega,(not_great 0).2 (by omega)]
 simp [Fx.told,(not_great (-q)).2 (by omega)]
theorem sub1 {q:Int} (h:-17179869184 <= q/\q <= 17179869184):sub 4294967296 q = some (4294967296 - q):=by
 unfold sub
 rw [(not_great q).2 (by omega),(not_great 4294967296).2 (by omega)]
 simp [Fx.told,(not_great (4294967296 - q)).2 (by omega)]
def Near (m R:Int):Prop:=(-4294967296 <= 4294967296 * m - R/\4294967296 * m - R <= 4294967296)/\(-36893488147419103232 <= R/\R <= 36893488147419103232)/\(-8589934592 <= m/\m <= 8589934592)
theorem near_off {r P:Int} (l:4294967296 * r <= P) (u:P < 4294967296 * r + 4294967296) (hP:-18446744108069289992 <= P/\P <= 18446744108069289992):Near r P:=by
 unfold Near
 omega
theorem near_dia {r P:Int} (l:4294967296 * r <= P) (u:P < 4294967296 * r + 4294967296) (hP:0 <= P/\P <= 36893488216138579984):Near (4294967296 - r) (18446744073709551616 - P):=by
 unfold Near
 omega
theorem two_le {a b:Int}:-(a * a + b * b) <= 2 * (a * b)/\2 * (a * b) <= a * a + b * b:=by
 have h3:=sq_nonneg (a + b)
 have h4:=sq_nonneg (a - b)
 have e3:(a + b) * (a + b) = a * a + b * b + 2 * (a * b):=by grind
 have e4:(a - b) * (a - b) = a * a + b * b - 2 * (a * b):=by grind
 omega
theorem off_le {a b c d M:Int} (h:a * a + b * b + (c * c + d * d) <= M):(-M <= 2 * (a * b) + 2 * (c * d)/\2 * (a * b) + 2 * (c * d) <= M)/\(-M <= 2 * (a * b) + 2 * (c * -d)/\2 * (a * b) + 2 * (c * -d) <= M):=by
 have h1:=two_le (a:=a) (b:=b)
 have h2:=two_le (a:=c) (b:=d)
 rw [Int.mul_neg]
 omega
theorem dia_le {a b c d M:Int} (h:a * a + b * b + (c * c + d * d) <= M):0 <= 2 * (a * a) + 2 * (b * b)/\2 * (a * a) + 2 * (b * b) <= 2 * M:=by
 have h1:=sq_nonneg a
 have h2:=sq_nonneg b
 have h3:=sq_nonneg c
 have h4:=sq_nonneg d
 omega
theorem neg_in {q:Int} (h:-4294967296 <= q/\q <= 4294967296):-4294967296 <= -q/\-q <= 4294967296:=by omega
theorem dbl_in {q:Int} (h:-4294967296 <= q/\q <= 4294967296):-8589934592 <= 2 * q/\2 * q <= 8589934592:=by omega
theorem rows_near {w x y z:Int} (hw:-4294967296 <= w/\w <= 4294967296) (hx:-4294967296 <= x/\x <= 4294967296) (hy:-4294967296 <= y/\y <= 4294967296) (hz:-4294967296 <= z/\z <= 4294967296)
  (h2:w * w + (x * x + (y * y + z * z)) - 18446744073709551616 <= 34359738376):rowsBad w x y z = false /\
  Near (rowsAt0 w x y z) (18446744073709551616 - (2 * (y * y) + 2 * (z * z)))/\Near (rowsAt1 w x y z) (2 * (x * y) + 2 * (w * -z))/\Near (rowsAt2 w x y z) (2 * (x * z) + 2 * (w * y)) /\
  Near (rowsAt3 w x y z) (2 * (x * y) + 2 * (w * z))/\Near (rowsAt4 w x y z) (18446744073709551616 - (2 * (x * x) + 2 * (z * z)))/\Near (rowsAt5 w x y z) (2 * (y * z) + 2 * (w * -x)) /\
  Near (rowsAt6 w x y z) (2 * (x * z) + 2 * (w * -y))/\Near (rowsAt7 w x y z) (2 * (y * z) + 2 * (w * x))/\Near (rowsAt8 w x y z) (18446744073709551616 - (2 * (x * x) + 2 * (y * y))):=by
 have B0:=dia_le (a:=y) (b:=z) (c:=w) (d:=x) (M:=18446744108069289992) (by omega)
 have B1:=off_le (a:=x) (b:=y) (c:=w) (d:=z) (M:=18446744108069289992) (by omega)
 have B2:=off_le (a:=x) (b:=z) (c:=w) (d:=y) (M:=18446744108069289992) (by omega)
 have B4:=dia_le (a:=x) (b:=z) (c:=w) (d:=y) (M:=18446744108069289992) (by omega)
 have B5:=off_le (a:=y) (b:=z) (c:=w) (d:=x) (M:=18446744108069289992) (by omega)
 have B8:=dia_le (a:=x) (b:=y) (c:=w) (d:=z) (M:=18446744108069289992) (by omega)
 obtain ⟨r0,d0,l0,u0,k0,j0⟩:=dot2 (dbl_in hy) (dbl_in hz) hy hz
 obtain ⟨r1,d1,l1,u1,k1,j1⟩:=dot2 (dbl_in hx) (dbl_in hw) hy (neg_in hz)
 obtain ⟨r2,d2,l2,u2,k2,j2⟩:=dot2 (dbl_in hx) (dbl_in hw) hz hy
 obtain ⟨r3,d3,l3,u3,k3,j3⟩:=dot2 (dbl_in hx) (dbl_in hw) hy hz
 obtain ⟨r4,d4,l4,u4,k4,j4⟩:=dot2 (dbl_in hx) (dbl_in hz) hx hz
 obtain ⟨r5,d5,l5,u5,k5,j5⟩:=dot2 (dbl_in hy) (dbl_in hw) hz (neg_in hx)
 obtain ⟨r6,d6,l6,u6,k6,j6⟩:=dot2 (dbl_in hx) (dbl_in hw) hz (neg_in hy)
 obtain ⟨r7,d7,l7,u7,k7,j7⟩:=dot2 (dbl_in hy) (dbl_in hw) hz hx
 obtain ⟨r8,d8,l8,u8,k8,j8⟩:=dot2 (dbl_in hx) (dbl_in hy) hx hy
 simp only [Int.mul_assoc] at l0 u0 l1 u1 l2 u2 l3 u3 l4 u4 l5 u5 l6 u6 l7 u7 l8 u8
 unfold rowsBad rowsAt0 rowsAt1 rowsAt2 rowsAt3 rowsAt4 rowsAt5 rowsAt6 rowsAt7 rowsAt8
 simp only [add2 hw,add2 hx,add2 hy,add2 hz,sub0 hw,sub0 hx,sub0 hy,sub0 hz,Option.getD_some,Option.isNone_some,d0,d1,d2,d3,d4,d5,d6,d7,d8,sub1 ⟨k0,j0⟩,sub1 ⟨k4,j4⟩,sub1 ⟨k8,j8⟩]
 exact ⟨by simp,near_dia l0 u0 B0,near_off l1 u1 B1.2,near_off l2 u2 B2.1,near_off l3 u3 B1.1,near_dia l4 u4 B4,near_off l5 u5 B5.2,near_off l6 u6 B2.2,near_off l7 u7 B5.1,near_dia l8 u8 B8⟩
end WM
end
section
open Go.RowKit Fx
namespace WM
def Whole (w x y z:Int):Prop:=(-4294967296 <= w/\w <= 4294967296)/\(-4294967296 <= x/\x <= 4294967296)/\(-4294967296 <= y/\y <= 4294967296)/\(-4294967296 <= z/\z <= 4294967296) /\
  -34359738376 <= w * w + (x * x + (y * y + z * z)) - 18446744073709551616/\w * w + (x * x + (y * y + z * z)) - 18446744073709551616 <= 34359738376
theorem dot3 {m0 m1 m2 a0 a1 a2 B:Int} (h0:-8589934592 <= m0/\m0 <= 8589934592) (h1:-8589934592 <= m1/\m1 <= 8589934592) (h2:-8589934592 <= m2/\m2 <= 8589934592)
  (k0:-B <= a0/\a0 <= B) (k1:-B <= a1/\a1 <= B) (k2:-B <= a2/\a2 <= B) (hB:B <= 1125899906842624) :
  ∃ r:Int,dot [m0,m1,m2] [a0,a1,a2] = some r/\(4294967296 * r <= m0 * a0 + (m1 * a1 + m2 * a2)/\m0 * a0 + (m1 * a1 + m2 * a2) < 4294967296 * r + 4294967296)/\(-(6 * B + 1) <= r/\r <= 6 * B + 1):=by
 have j0:=mul_in h0 k0
 have j1:=mul_in h1 k1
 have j2:=mul_in h2 k2
 have e:prods [m0,m1,m2] [a0,a1,a2] / 4294967296 = (m0 * a0 + (m1 * a1 + m2 * a2)) / 4294967296:=by simp only [prods,Int.add_zero]
 have g1:[m0,m1,m2].any great = false:=by simp [(not_great m0).2 (by omega),(not_great m1).2 (by omega),(not_great m2).2 (by omega)]
 have g2:[a0,a1,a2].any great = false:=by simp [(not_great a0).2 (by omega),(not_great a1).2 (by omega),(not_great a2).2 (by omega)]
 have hX:-(25769803776 * B) <= m0 * a0 + (m1 * a1 + m2 * a2)/\m0 * a0 + (m1 * a1 + m2 * a2) <= 25769803776 * B:=by omega
 generalize m0 * a0 + (m1 * a1 + m2 * a2) = X at *
 refine ⟨X / 4294967296,?_,by omega,by omega⟩
 have g3:great (X / 4294967296) = false:=(not_great _).2 (by omega)
 unfold dot
 rw [if_neg (by simp),if_neg (by simp),g1,g2,e]
 simp [Fx.told,g3]
end WM
end
end Go.Proofs.YtgbofpbidbhleaaGreat
