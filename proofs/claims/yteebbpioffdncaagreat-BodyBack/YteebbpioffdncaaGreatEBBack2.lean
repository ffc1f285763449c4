/- Which shapes may be: formed, Check. -/
import Derived.Test.YteebbpioffdncaaGreatEBBack1
import Derived.Lib.BufferMore
import Derived.Test.YteebbpioffdncaaGreatEBBack0
import Derived.Test.YteebbpioffdncaaGreatProg
import Derived.WalkKit
import Derived.Laws.MathBits
import Derived.Laws.Externs
import Derived.Handy
import Derived.Laws.BitsAllLaws
import Derived.WalkLawsBesides
set_option maxHeartbeats 4000000
set_option maxRecDepth 100000
set_option linter.unusedVariables false
namespace Go.Proofs.YteebbpioffdncaaGreat
open Go.Calls renaming mono -> JA
open Tryz
open Go.Value renaming int -> J
open Go.IntKind renaming i64 -> I
section
open Go.RowKit Go.Shelf
structure Sh where
 kind:Int
 radius:Int
 half:Pt
 pts:List Pt
def Sh.v (s:Sh) (pv:Value):Value:=.agg #[J I s.kind,J I s.radius,J I s.half.x,J I s.half.y,J I s.half.z,pv]
def inR (n a b:Int):Bool:=decide (a <= n/\n <= b)
def Jbj (s:Sh):Bool:=
 if s.kind = 1 then inR s.radius 1 16384
 else if s.kind = 2 then inR s.radius 1 16384 && J8 s.half.x
 else if s.kind = 3 then inR s.radius 0 16384 && (J8 s.half.x && (J8 s.half.y && J8 s.half.z))
 else if s.kind = 4 then inR s.radius 0 16384 && Jcp s.pts
 else false
def Jaj (s:Sh):Int:=if Jbj s then (if s.kind = 4/\Jdr s.pts = true then 51 else 0) else 50
theorem Jb4 (n a b:Int) (w:World) (t:Bool) (h:inR n a b = t) :
  Calls Tryz.prog 129 #[J I n,J I a,J I b] w fun e w'=>e = .returned (.bool t)/\w' = w:=by
 subst h;exact Jlg n a b w
theorem Js2 (n:Int) (w:World):Calls Tryz.prog 130 #[.slice (some ⟨w.heap.size,0,none⟩) 1 1] (w.alloc (.cells #[J I n] 3)) fun e W=>e = .returned (.bool (J8 n))/\W = w.alloc (.cells #[J I n] 3):=by
 have h:=Jhx [n] w.heap.size (w.alloc (.cells #[J I n] 3)) (fun i hi=>by
  match i,hi with
  | 0,_=>simp) (by simp)
 simpa using h
theorem Jr3 (x y z:Int) (w:World):Calls Tryz.prog 130 #[.slice (some ⟨w.heap.size,0,none⟩) 3 3] (w.alloc (.cells #[J I x,J I y,J I z] 3)) fun e W=>e = .returned (.bool (J8 x && (J8 y && J8 z)))/\W = w.alloc (.cells #[J I x,J I y,J I z] 3):=by
 have h:=Jhx [x,y,z] w.heap.size (w.alloc (.cells #[J I x,J I y,J I z] 3)) (fun i hi=>by
  match i,hi with
  | 0,_=>simp
  | 1,_=>simp
  | 2,_=>simp) (by simp)
 simpa using h
theorem Jmc (s:Sh) (pv:Value) (w:World) (hv:Lies w pv s.pts) :
  Calls Tryz.prog 89 #[s.v pv] w fun e W=>e = .returned (.bool (Jbj s))/\Below w.heap.size w W:=by
 obtain ⟨k,r,⟨hx,hy,hz⟩,L⟩:=s
 have HF:Hid (Jbj ⟨k,r,⟨hx,hy,hz⟩,L⟩ = if k = 1 then inR r 1 16384 else if k = 2 then inR r 1 16384 && J8 hx else if k = 3 then inR r 0 16384 && (J8 hx && (J8 hy && J8 hz)) else if k = 4 then inR r 0 16384 && Jcp L else false):=rfl
 generalize Jbj ⟨k,r,⟨hx,hy,hz⟩,L⟩ = F at *
 have hB:Hid (Below w.heap.size w (w.alloc (.cells #[J I k,J I r,J I hx,J I hy,J I hz,pv] 37))):=Jb w _
 have HP:Hid _:=Jgr pv L (w.alloc (.cells #[J I k,J I r,J I hx,J I hy,J I hz,pv] 37)) (hv.below (Jb w _))
 have H1:Hid _:=Js2 hx (w.alloc (.cells #[J I k,J I r,J I hx,J I hy,J I hz,pv] 37))
 have H3:Hid _:=Jr3 hx hy hz (w.alloc (.cells #[J I k,J I r,J I hx,J I hy,J I hz,pv] 37))
 obtain ⟨o,c,rfl,hlc,hcm,_⟩:=hv.form
 dsimp only at hlc hcm HP H1 H3 hB ⊢
 clear hv
 rw [World.size_alloc] at H1 H3
 unfold Sh.v
 dsimp only
 by_cases k1:k = 1
 ·subst k1
  have e:F = inR r 1 16384:=HF.out
  subst e
  generalize hb:inR r 1 16384 = t
  go_enter func89,ntmps89
  go_wp2_with (go_at_call 129;refine (Jb4 _ _ _ _ t hb).mono ?_;rintro e w' ⟨rfl,rfl⟩)
  go_ret
  exact ⟨rfl,hB.out⟩
 by_cases k2:k = 2
 ·subst k2
  have e:F = (inR r 1 16384 && J8 hx):=HF.out
  cases hb:inR r 1 16384 with
  | false =>
   rw [hb] at e
   subst e
   go_enter func89,ntmps89
   go_wp2_with (go_at_call 129;refine (Jb4 _ _ _ _ false hb).mono ?_;rintro e w' ⟨rfl,rfl⟩)
   go_ret
   exact ⟨rfl,hB.out⟩
  | true =>
   rw [hb] at e
   subst e
   generalize J8 hx = t at *
   go_enter func89,ntmps89
   go_wp2_with (first | (go_at_call 129;refine (Jb4 _ _ _ _ true hb).mono ?_;rintro e w' ⟨rfl,rfl⟩) | (go_at_call 130;refine JA H1.out ?_;rintro e w' ⟨rfl,rfl⟩))
   go_ret
   exact ⟨by simp,Jf hB.out (Jb _ _)⟩
 by_cases k3:k = 3
 ·subst k3
  have e:F = (inR r 0 16384 && (J8 hx && (J8 hy && J8 hz))):=HF.out
  cases hb:inR r 0 16384 with
  | false =>
   rw [hb] at e
   subst e
   go_enter func89,ntmps89
   go_wp2_with (go_at_call 129;refine (Jb4 _ _ _ _ false hb).mono ?_;rintro e w' ⟨rfl,rfl⟩)
   go_ret
   exact ⟨rfl,hB.out⟩
  | true =>
   rw [hb] at e
   generalize (J8 hx && (J8 hy && J8 hz)) = t at *
   subst e
   go_enter func89,ntmps89
   go_wp2_with (first | (go_at_call 129;refine (Jb4 _ _ _ _ true hb).mono ?_;rintro e w' ⟨rfl,rfl⟩) | (go_at_call 130;refine JA H3.out ?_;rintro e w' ⟨rfl,rfl⟩))
   go_ret
   exact ⟨by simp,Jf hB.out (Jb _ _)⟩
 by_cases k4:k = 4
 ·subst k4
  have e:F = (inR r 0 16384 && Jcp L):=HF.out
  cases hb:inR r 0 16384 with
  | false =>
   rw [hb] at e
   subst e
   go_enter func89,ntmps89
   go_wp2_with (go_at_call 129;refine (Jb4 _ _ _ _ false hb).mono ?_;rintro e w' ⟨rfl,rfl⟩)
   go_ret
   exact ⟨rfl,hB.out⟩
  | true =>
   rw [hb] at e
   generalize Jcp L = t at *
   subst e
   go_enter func89,ntmps89
   go_wp2_with (first | (go_at_call 129;refine (Jb4 _ _ _ _ true hb).mono ?_;rintro e w' ⟨rfl,rfl⟩) | (go_at_call 131;refine JA HP.out ?_;rintro e V ⟨rfl,hb2⟩))
   go_ret
   exact ⟨by simp,Jf hB.out hb2⟩
 ·have e:F = false:=by rw [HF.out,if_neg k1,if_neg k2,if_neg k3,if_neg k4]
  subst e
  go_enter func89,ntmps89
  go_wp2
  go_ret
  exact ⟨rfl,hB.out⟩
theorem Jev {L:List Pt} (h:Jcp L = true):4 <= L.length/\L.length <= 12/\(∀ p ∈ L,p.inB 65536 = true)/\L.Nodup:=by
 unfold Jcp at h
 simp only [Bool.and_eq_true,decide_eq_true_eq,List.all_eq_true] at h
 exact ⟨h.1.1,h.1.2,h.2.1,h.2.2⟩
theorem Jio {s:Sh} (h:Jbj s = true) (k:s.kind = 4):Jcp s.pts = true:=by
 unfold Jbj at h
 rw [if_neg (by omega),if_neg (by omega),if_neg (by omega),if_pos k,Bool.and_eq_true] at h
 exact h.2
theorem Jo4 (s:Sh) (pv:Value) (w:World) (hv:Lies w pv s.pts) :
  Calls Tryz.prog 37 #[s.v pv] w fun e W=>e = .returned (J I (Jaj s))/\Below w.heap.size w W:=by
 have hB:Hid (Below w.heap.size w (w.alloc (.cells #[J I s.kind,J I s.radius,J I s.half.x,J I s.half.y,J I s.half.z,pv] 37))):=Jb w _
 have HF:Hid _:=Jmc s pv (w.alloc (.cells #[J I s.kind,J I s.radius,J I s.half.x,J I s.half.y,J I s.half.z,pv] 37)) (hv.below hB.out)
 have HC:Hid (Jaj s = if Jbj s then (if s.kind = 4/\Jdr s.pts = true then 51 else 0) else 50):=rfl
 have HM:Hid (Jbj s = true->s.kind = 4->Jcp s.pts = true):=fun a b=>Jio a b
 generalize Jaj s = C at *
 have HV:Hid _:=hv
 obtain ⟨o,c,rfl,hlc,hcm,_⟩:=hv.form
 clear hv
 generalize Jbj s = F at *
 obtain ⟨k,r,⟨hx,hy,hz⟩,L⟩:=s
 unfold Sh.v at *
 dsimp only at *
 cases F with
 | false =>
  have e:C = 50:=HC.out
  subst e
  go_enter func37,ntmps37
  go_wp2_with (go_at_call 89;refine JA HF.out ?_;rintro e V ⟨rfl,hb⟩)
  go_ret
  exact ⟨rfl,Jf hB.out hb⟩
 | true =>
  have c0:(w.alloc (.cells #[J I k,J I r,J I hx,J I hy,J I hz,.slice o L.length c] 37)).cell? ⟨w.heap.size,0,none⟩ = some (J I k):=by simp
  have c5:(w.alloc (.cells #[J I k,J I r,J I hx,J I hy,J I hz,.slice o L.length c] 37)).cell? ⟨w.heap.size,5,none⟩ = some (.slice o L.length c):=by simp
  by_cases k4:k = 4
  ·subst k4
   obtain ⟨m1,m2,m3,m4⟩:=Jev (HM.out rfl rfl)
   have m3:Hid _:=m3
   have HC:Hid (C = if Jdr L = true then 51 else 0):=by show _ = _;rw [HC.out];simp
   go_enter func37,ntmps37
   go_wp2_with (fail)
   refine JA HF.out ?_
   clear HF
   rintro e V ⟨rfl,hb⟩
   have d0:=Ja hb c0
   have d5:=Ja hb c5
   have hB2:Hid _:=Jf hB.out hb
   clear hb c0 c5
   go_wp2_with (fail)
   refine JA (Jqc _ L V (HV.out.below hB2.out) m1 m2 m3.out) ?_
   rintro e V2 ⟨rfl,hb⟩
   clear d0 d5
   generalize Jdr L = fl at *
   cases fl with
   | true =>
    have e:C = 51:=HC.out
    subst e
    go_wp2_with (fail)
    go_ret
    exact ⟨rfl,Jf hB2.out hb⟩
   | false =>
    have e:C = 0:=HC.out
    subst e
    go_wp2_with (fail)
    go_ret
    exact ⟨rfl,Jf hB2.out hb⟩
  ·have e:C = 0:=by rw [HC.out,if_pos rfl,if_neg (fun h=>k4 h.1)]
   subst e
   go_enter func37,ntmps37
   go_wp2_with (fail)
   refine JA HF.out ?_
   clear HF
   rintro e V ⟨rfl,hb⟩
   have d0:=Ja hb c0
   have hB2:Hid _:=Jf hB.out hb
   clear hb c0 c5
   go_wp2_with (fail)
   go_ret
   exact ⟨rfl,hB2.out⟩
end
section
open Go.RowKit Go.Shelf
def J1 (h:Pt):List Pt:=[⟨-h.x,-h.y,-h.z⟩,⟨-h.x,-h.y,h.z⟩,⟨-h.x,h.y,-h.z⟩,⟨-h.x,h.y,h.z⟩,⟨h.x,-h.y,-h.z⟩,⟨h.x,-h.y,h.z⟩,⟨h.x,h.y,-h.z⟩,⟨h.x,h.y,h.z⟩]
def straightP:List Pt:=[⟨1,0,0⟩,⟨0,1,0⟩,⟨0,0,1⟩]
end
section
open Go.RowKit Go.Shelf
def Jch (s:Sh):List Pt:=if s.kind = 1 then [Pt.O] else if s.kind = 2 then [⟨-s.half.x,0,0⟩,⟨s.half.x,0,0⟩] else if s.kind = 3 then J1 s.half else s.pts
def Jn5 (s:Sh):List Pt:=if s.kind = 3 then straightP else if s.kind = 4 then (Jdv s.pts).1 else []
def Jji (s:Sh):List Pt:=if s.kind = 2 then [⟨1,0,0⟩] else if s.kind = 3 then straightP else if s.kind = 4 then (Jdv s.pts).2 else []
theorem Jqe {w:World} {base base':Nat} {t:TypeId} {sz n:Nat} {u:Value} {xs:List Value} (h:w.ownsRow base t sz u n xs) (hb:base' <= base):w.ownsRow base' t sz u n xs:=Go.Joins.ownsRow_le h hb
structure Three (w0 W:World) (vp va ve:Value) (P A E:List Pt):Prop where
 rp:W.ownsRow w0.heap.size 23 3 vp P.length (fl3 P)
 ra:W.ownsRow w0.heap.size 23 3 va A.length (fl3 A)
 re:W.ownsRow w0.heap.size 23 3 ve E.length (fl3 E)
 pa:∀ k,vp.ownBlock = some k->va.ownBlock ≠ some k
 pe:∀ k,vp.ownBlock = some k->ve.ownBlock ≠ some k
 ae:∀ k,va.ownBlock = some k->ve.ownBlock ≠ some k
 below:Below w0.heap.size w0 W
def set4 (W:World) (b:Nat) (v0 v1 v2 v3:Value):World:=(((W.setCell ⟨b,0,none⟩ v0).setCell ⟨b,1,none⟩ v1).setCell ⟨b,2,none⟩ v2).setCell ⟨b,3,none⟩ v3
theorem Jhs {W:World} {base:Nat} {t:TypeId} {sz n:Nat} {u:Value} {xs:List Value} {b:Nat} (h:W.ownsRow base t sz u n xs) (hne:u.ownBlock ≠ some b) (v0 v1 v2 v3:Value):(set4 W b v0 v1 v2 v3).ownsRow base t sz u n xs:=
 ownsRow_setCell_other (ownsRow_setCell_other (ownsRow_setCell_other (ownsRow_setCell_other h hne _) hne _) hne _) hne _
theorem Jfj {n:Nat} {w W:World} {b:Nat} (h:Below n w W) (hb:n <= b) (v0 v1 v2 v3:Value):Below n w (set4 W b v0 v1 v2 v3):=(((h.setCell hb _).setCell hb _).setCell hb _).setCell hb _
theorem Three.set {w0 W:World} {vp va ve:Value} {P A E:List Pt} {b:Nat} (h:Three w0 W vp va ve P A E) (hb:w0.heap.size <= b) (h1:vp.ownBlock ≠ some b) (h2:va.ownBlock ≠ some b) (h3:ve.ownBlock ≠ some b) (v0 v1 v2 v3:Value):Three w0 (set4 W b v0 v1 v2 v3) vp va ve P A E:=
 ⟨Jhs h.rp h1 _ _ _ _,Jhs h.ra h2 _ _ _ _,Jhs h.re h3 _ _ _ _,h.pa,h.pe,h.ae,Jfj h.below hb _ _ _ _⟩
theorem Jph {w0 W:World} (h:Below w0.heap.size w0 W):Three w0 W (.slice none 0 0) (.slice none 0 0) (.slice none 0 0) [] [] []:=
 ⟨World.ownsRow_nil _ _ _ _,World.ownsRow_nil _ _ _ _,World.ownsRow_nil _ _ _ _,(fun _ h=>by cases h),(fun _ h=>by cases h),(fun _ h=>by cases h),h⟩
def Cells (W:World) (b:Nat) (vs:List Value):Prop:=∀ i v,vs[i]? = some v->W.cell? ⟨b,i,none⟩ = some v/\W.frozen? ⟨b,i,none⟩ = false
theorem Cells.step {A B:World} {b:Nat} {vs:List Value} (h:Cells A b vs) (hb:Below A.heap.size A B):Cells B b vs:=fun i v e=>⟨Ja hb (h i v e).1,Jt hb (h i v e).1 (h i v e).2⟩
theorem Cells.new (w:World) (vs:List Value) (t:TypeId):Cells (w.alloc (.cells vs.toArray t)) w.heap.size vs:=fun i v e=>⟨by simp [e],by simp [go_sem]⟩
theorem Cells.set {W:World} {b:Nat} {vs:List Value} (h:Cells W b vs) (k:Nat) (u:Value) (hk:k < vs.length):Cells (W.setCell ⟨b,k,none⟩ u) b (vs.set k u):=by
 intro i v e
 by_cases hik:i = k
 ·subst hik
  rw [List.getElem?_set_self hk] at e
  cases e
  obtain ⟨h1,h2⟩:=h i _ (List.getElem?_eq_getElem hk)
  exact ⟨by simp [go_sem,h1],by simp [go_sem,h2]⟩
 ·rw [List.getElem?_set_ne (Ne.symm hik)] at e
  obtain ⟨h1,h2⟩:=h i v e
  exact ⟨by simp [go_sem,h1],by simp [go_sem,h2]⟩
theorem Cells.set4 {W:World} {b:Nat} {x0 x1 x2 x3:Value} (h:Cells W b [x0,x1,x2,x3]) (v0 v1 v2 v3:Value):Cells (set4 W b v0 v1 v2 v3) b [v0,v1,v2,v3]:=(((h.set 0 v0 (by simp)).set 1 v1 (by simp)).set 2 v2 (by simp)).set 3 v3 (by simp)
theorem Jnr {w:World} {base:Nat} {p:Pt} (hb:base <= w.heap.size):(w.alloc (.cells #[J I p.x,J I p.y,J I p.z] 23)).ownsRow base 23 3 (.slice (some ⟨w.heap.size,0,none⟩) 1 1) [p].length (fl3 [p]):=
 World.ownsRow_lit (e:=23) (size:=3) w #[J I p.x,J I p.y,J I p.z] 1 hb (by unfold maxLen;omega) rfl
theorem Jsb {w:World} {base:Nat} {p q:Pt} (hb:base <= w.heap.size):(w.alloc (.cells #[J I p.x,J I p.y,J I p.z,J I q.x,J I q.y,J I q.z] 23)).ownsRow base 23 3 (.slice (some ⟨w.heap.size,0,none⟩) 2 2) [p,q].length (fl3 [p,q]):=
 World.ownsRow_lit (e:=23) (size:=3) w #[J I p.x,J I p.y,J I p.z,J I q.x,J I q.y,J I q.z] 2 hb (by unfold maxLen;omega) rfl
theorem Jne {w0 W:World} (h:Below w0.heap.size w0 W) (n:Nat) (hn:n = W.heap.size):Three w0 (W.alloc (.cells #[J I 0,J I 0,J I 0] 23)) (.slice (some ⟨n,0,none⟩) 1 1) (.slice none 0 0) (.slice none 0 0) [Pt.O] [] []:=by
 subst hn
 exact ⟨Jnr (p:=Pt.O) h.size,World.ownsRow_nil _ _ _ _,World.ownsRow_nil _ _ _ _,(fun _ _ h=>by cases h),(fun _ _ h=>by cases h),(fun _ h=>by cases h),Jf h (Jb _ _)⟩
theorem Jii {w0 W:World} (h:Below w0.heap.size w0 W) (x:Int) (n m:Nat) (hn:n = W.heap.size) (hm:m = W.heap.size + 1):Three w0 ((W.alloc (.cells #[J I (-x),J I 0,J I 0,J I x,J I 0,J I 0] 23)).alloc (.cells #[J I 1,J I 0,J I 0] 23)) (.slice (some ⟨n,0,none⟩) 2 2) (.slice none 0 0) (.slice (some ⟨m,0,none⟩) 1 1) [⟨-x,0,0⟩,⟨x,0,0⟩] [] [⟨1,0,0⟩]:=by
 subst hn hm
 have hs:w0.heap.size <= (W.alloc (.cells #[J I (-x),J I 0,J I 0,J I x,J I 0,J I 0] 23)).heap.size:=by have:=h.size;simp;omega
 have k2:=Jnr (w:=W.alloc (.cells #[J I (-x),J I 0,J I 0,J I x,J I 0,J I 0] 23)) (base:=w0.heap.size) (p:=⟨1,0,0⟩) hs
 rw [World.size_alloc] at k2
 refine ⟨Jq (Jsb (p:=⟨-x,0,0⟩) (q:=⟨x,0,0⟩) h.size) (Jb _ _),World.ownsRow_nil _ _ _ _,k2,(fun _ _ h=>by cases h),(fun k h e=>?_),(fun _ h=>by cases h),Jf h (Jf (Jb _ _) (Jb _ _))⟩
 simp only [Value.ownBlock,Option.some.injEq] at h e
 omega
theorem Three.put {w0 W:World} {vp va ve:Value} {P A E:List Pt} {b:Nat} (h:Three w0 W vp va ve P A E) (hb:w0.heap.size <= b) (h1:vp.ownBlock ≠ some b) (h2:va.ownBlock ≠ some b) (h3:ve.ownBlock ≠ some b) (k:Nat) (v:Value):Three w0 (W.setCell ⟨b,k,none⟩ v) vp va ve P A E:=
 ⟨ownsRow_setCell_other h.rp h1 _,ownsRow_setCell_other h.ra h2 _,ownsRow_setCell_other h.re h3 _,h.pa,h.pe,h.ae,h.below.setCell hb _⟩
end
section
open Go.RowKit Go.Shelf
def Jri (a b:Int):Int:=if b > a then b else a
def Pt.plus (p q:Pt):Pt:=⟨IntKind.i64.wrap (p.x + q.x),IntKind.i64.wrap (p.y + q.y),IntKind.i64.wrap (p.z + q.z)⟩
def Pt.greater (p q:Pt):Pt:=⟨Jri p.x q.x,Jri p.y q.y,Jri p.z q.z⟩
structure Bx where
 lo:Pt
 hi:Pt
def Bx.v (b:Bx):Value:=.agg #[J I b.lo.x,J I b.lo.y,J I b.lo.z,J I b.hi.x,J I b.hi.y,J I b.hi.z]
end
section
open Go.RowKit Go.Shelf
def Bx.grown (a:Bx) (n:Int):Bx:=⟨a.lo.plus ⟨IntKind.i64.wrap (-n),IntKind.i64.wrap (-n),IntKind.i64.wrap (-n)⟩,a.hi.plus ⟨n,n,n⟩⟩
end
section
open Go.RowKit Go.Shelf
theorem Cells.apart {W:World} {b b':Nat} {vs:List Value} (h:Cells W b vs) (hne:b ≠ b') (o:Nat) (u:Value):Cells (W.setCell ⟨b',o,none⟩ u) b vs:=fun i v e =>
 ⟨by simp [go_sem,(h i v e).1],by simp [go_sem,(h i v e).2]⟩
end
section
open Go.RowKit
theorem Jdq (x y:Int) (w:World) (hx0:0 <= x) (hx:x < 18446744073709551616) (hy0:0 <= y) (hy:y < 18446744073709551616) :
  Calls Tryz.prog 145 #[.int .u64 x,.int .u64 y] w fun e w'=>e = .returned (.tuple #[.int .u64 (x * y / 18446744073709551616),.int .u64 (x * y % 18446744073709551616)])/\w' = w:=by
 have Ha:Hid (_ = _):=mul64_arith x y hx0 hx hy0 hy
 have hmx:=and_low32 x hx0 hx
 have hmy:=and_low32 y hy0 hy
 have hmt:Hid (∀ z:Int,bits .and .u64 (z % 18446744073709551616) 4294967295 = z % 18446744073709551616 % 4294967296):=fun z=>and_low32 _ (by omega) (by omega)
 go_enter func145,ntmps145
 go_wp2
 simp only [IntKind.wrap_u64,hmt.out,Ha.out]
 go_ret2
 exact ⟨rfl,rfl⟩
theorem Jik (x y c:Int) (w:World) (hx0:0 <= x) (hy0:0 <= y) (hc0:0 <= c) (hc:c <= 1) :
  (callFunc 157 #[.int .u64 x,.int .u64 y,.int .u64 c]).run Tryz.prog w =
   .ok (.value (.tuple #[.int .u64 ((x + y + c) % 18446744073709551616),.int .u64 ((x + y + c) / 18446744073709551616)])) w:=by
 rw [run_callFunc_extern func157 (by kernel_rfl) (by kernel_rfl) (by kernel_rfl) (e:=add64Entry) (by kernel_rfl),run_add64 x y c hx0 hy0 hc0 hc]
 rfl
theorem Jk7 {P:Program} (x y b:Nat) (hb:b <= 1) (w:World) :
  ((Extern.MathBitsCarry.rows[1]'(by decide)).2 #[.int .u64 x,.int .u64 y,.int .u64 b]).run P w =
   .ok (.tuple #[.int .u64 (((x + 18446744073709551616 - y - b) % 18446744073709551616:Nat):Int),.int .u64 ((if x < y + b then 1 else 0:Nat):Int)]) w:=by
 have:b = 0 \/ b = 1:=by omega
 rcases this with rfl | rfl <;> rfl
theorem Jew (x y b:Int) (w:World) (hx0:0 <= x) (hx:x < 18446744073709551616) (hy0:0 <= y) (hy:y < 18446744073709551616) (hb0:0 <= b) (hb:b <= 1) :
  (callFunc 169 #[.int .u64 x,.int .u64 y,.int .u64 b]).run Tryz.prog w =
   .ok (.value (.tuple #[.int .u64 ((x - y - b) % 18446744073709551616),.int .u64 (if x < y + b then 1 else 0)])) w:=by
 obtain ⟨x,rfl⟩:=Int.eq_ofNat_of_zero_le hx0
 obtain ⟨y,rfl⟩:=Int.eq_ofNat_of_zero_le hy0
 obtain ⟨b,rfl⟩:=Int.eq_ofNat_of_zero_le hb0
 rw [run_callFunc_extern func169 (by kernel_rfl) (by kernel_rfl) (by kernel_rfl) (e:=(Extern.MathBitsCarry.rows[1]'(by decide)).2) (by kernel_rfl),Jk7 x y b (by omega)]
 simp only [Result.andThen]
 have e1:(((x + 18446744073709551616 - y - b) % 18446744073709551616:Nat):Int) = ((x:Int) - y - b) % 18446744073709551616:=by omega
 have e2:(((if x < y + b then 1 else 0:Nat)):Int) = (if (x:Int) < y + b then 1 else 0):=by split <;> split <;> omega
 rw [e1,e2]
theorem Jde (x y B:Int) (b:Nat) (hB:B = (b:Int)) (hb:b <= 56) (hy:y.toNat = x.toNat / 2 ^ b) (h:b = 0 \/ y.toNat ≠ 0) (h256:y.toNat < 256) :
  wrap64 (B + wrap64 (bitLen y.toNat)) = bitLen x.toNat:=by
 have l:=bitLen_le8 y.toNat h256
 have e:bitLen x.toNat = b + bitLen y.toNat:=by
  rcases h with rfl | h
  ·rw [hy];simp
  ·rw [hy] at h ⊢;exact bitLen_shift _ _ h
 rw [e,hB]
 unfold wrap64
 omega
theorem Jgd (x:Int) (w:World) (hx0:0 <= x) (hx:x < 18446744073709551616) :
  Calls Tryz.prog 168 #[.int .u64 x] w fun e w'=>e = .returned (J I (bitLen x.toNat))/\w' = w:=by
 go_enter func168,ntmps168
 go_wp2
 all_goals (go_ret;refine ⟨congrArg Ending.returned (congrArg (Value.int IntKind.i64) ?_),rfl⟩;rw [len8tab_get])
 ·exact Jde x _ _ 56 rfl (by omega) (by omega) (Or.inr (by omega)) (by omega)
 ·exact Jde x _ _ 48 rfl (by omega) (by omega) (Or.inr (by omega)) (by omega)
 ·exact Jde x _ _ 40 rfl (by omega) (by omega) (Or.inr (by omega)) (by omega)
 ·exact Jde x _ _ 32 rfl (by omega) (by omega) (Or.inr (by omega)) (by omega)
 ·exact Jde x _ _ 24 rfl (by omega) (by omega) (Or.inr (by omega)) (by omega)
 ·exact Jde x _ _ 16 rfl (by omega) (by omega) (Or.inr (by omega)) (by omega)
 ·exact Jde x _ _ 8 rfl (by omega) (by omega) (Or.inr (by omega)) (by omega)
 ·simpa using Jde x x 0 0 rfl (by omega) (by simp) (Or.inl rfl) (by omega)
theorem Jdd (x:Int) (hx0:0 <= x) (hx:x < 18446744073709551616):bitLen x.toNat <= 64:=by
 by_cases h:x.toNat = 0
 ·rw [h];decide
 ·have:=(bitLen_spec x.toNat).2 h
  by_cases g:bitLen x.toNat <= 64
  ·exact g
  ·exfalso
   have:=Nat.pow_le_pow_right (n:=2) (by omega) (show 64 <= bitLen x.toNat - 1 by omega)
   omega
theorem Jpw (x:Int) (w:World) (hx0:0 <= x) (hx:x < 18446744073709551616) :
  Calls Tryz.prog 170 #[.int .u64 x] w fun e w'=>e = .returned (J I (64 - (bitLen x.toNat:Int)))/\w' = w:=by
 have l:=Jdd x hx0 hx
 go_enter func170,ntmps170
 go_wp2_with (go_at_call 168;refine (Jgd x _ hx0 hx).mono ?_;rintro e w' ⟨rfl,rfl⟩)
 go_ret
 exact ⟨rfl,rfl⟩
end
section
namespace Fx
theorem div_of {n y q:Int} (hy:0 < y) (h1:q * y <= n) (h2:n < (q + 1) * y):n / y = q/\n % y = n - q * y:=by
 have e:n / y = q:=by
  apply Int.le_antisymm
  ·have:=(Int.ediv_lt_iff_lt_mul hy).2 h2;omega
  ·exact (Int.le_ediv_iff_mul_le hy).2 h1
 refine ⟨e,?_⟩
 have:=Int.emod_add_mul_ediv n y
 rw [e,Int.mul_comm] at this
 omega
theorem Jgi (n y:Int) (hy:0 < y):n / y * y <= n/\n < (n / y + 1) * y:=by
 have a:=Int.emod_add_mul_ediv n y
 have b:=Int.emod_nonneg n (by omega:y ≠ 0)
 have c:=Int.emod_lt_of_pos n hy
 rw [Int.add_mul,Int.mul_comm (n / y) y]
 omega
def Inv (U1 y1 Q q r:Int):Prop:=r + q * y1 = U1/\0 <= r/\Q <= q/\q <= 4294967297
theorem Jiw {U1 u1 y1 y0 Q:Int} (hU:0 <= U1) (hUY:U1 < y1 * 4294967296 + y0) (hu0:0 <= u1) (hu:u1 < 4294967296) (hy0:0 <= y0) (hy0':y0 < 4294967296) (hy1:2147483648 <= y1)
  (hQ0:0 <= Q) (hQ:Q * (y1 * 4294967296 + y0) <= U1 * 4294967296 + u1):Inv U1 y1 Q (U1 / y1) (U1 % y1)/\U1 % y1 < y1:=by
 have a:=Int.emod_add_mul_ediv U1 y1
 have b:=Int.emod_nonneg U1 (by omega:y1 ≠ 0)
 have c:=Int.emod_lt_of_pos U1 (by omega:0 < y1)
 rw [Int.mul_comm] at a
 refine ⟨⟨a,b,?_,?_⟩,c⟩
 ·apply (Int.le_ediv_iff_mul_le (by omega)).2
  have e:Q * (y1 * 4294967296 + y0) = Q * y1 * 4294967296 + Q * y0:=by rw [Int.mul_add,Int.mul_assoc]
  have:=Int.mul_nonneg hQ0 hy0
  omega
 ·have:U1 / y1 < 4294967298:=(Int.ediv_lt_iff_lt_mul (by omega)).2 (by omega)
  omega
theorem Jkr {U1 u1 y1 y0 Q q r:Int} (hUY:U1 < y1 * 4294967296 + y0) (hu0:0 <= u1) (hu:u1 < 4294967296) (hy0:0 <= y0) (hy1:2147483648 <= y1)
  (hQ:Q * (y1 * 4294967296 + y0) <= U1 * 4294967296 + u1) (hi:Inv U1 y1 Q q r) (hc:4294967296 <= q \/ 4294967296 * r + u1 < q * y0):Inv U1 y1 Q (q - 1) (r + y1):=by
 obtain ⟨h1,h2,h3,h4⟩:=hi
 have e:q * (y1 * 4294967296 + y0) = q * y1 * 4294967296 + q * y0:=by rw [Int.mul_add,Int.mul_assoc]
 have hlt:Q < q:=by
  rcases hc with hc | hc
  ·have:Q * (y1 * 4294967296 + y0) < 4294967296 * (y1 * 4294967296 + y0):=by omega
   have:=Int.lt_of_mul_lt_mul_right this (by omega)
   omega
  ·have:Q * (y1 * 4294967296 + y0) < q * (y1 * 4294967296 + y0):=by omega
   exact Int.lt_of_mul_lt_mul_right this (by omega)
 refine ⟨?_,by omega,by omega,by omega⟩
 rw [Int.sub_mul]
 omega
theorem Jfq {U1 u1 y1 y0 Q q r:Int} (hy0:0 <= y0) (hy1:2147483648 <= y1)
  (hQ:U1 * 4294967296 + u1 < (Q + 1) * (y1 * 4294967296 + y0)) (hi:Inv U1 y1 Q q r) (hc:q * y0 <= 4294967296 * r + u1):q = Q:=by
 obtain ⟨h1,h2,h3,h4⟩:=hi
 have e:q * (y1 * 4294967296 + y0) = q * y1 * 4294967296 + q * y0:=by rw [Int.mul_add,Int.mul_assoc]
 have:q * (y1 * 4294967296 + y0) < (Q + 1) * (y1 * 4294967296 + y0):=by omega
 have:=Int.lt_of_mul_lt_mul_right this (by omega)
 omega
theorem Jis {U1 u1 y1 y0 Q q r:Int} (hy0:0 <= y0) (hy0':y0 < 4294967296) (hy1:2147483648 <= y1) (hu0:0 <= u1)
  (hQ:U1 * 4294967296 + u1 < (Q + 1) * (y1 * 4294967296 + y0)) (hi:Inv U1 y1 Q q r) (hq:q <= 4294967296) (hr:4294967296 <= r):q = Q:=by
 refine Jfq hy0 hy1 hQ hi ?_
 have:=Int.mul_le_mul_of_nonneg_right hq hy0
 omega
theorem Jm9 {U1 u1 u0 Y Q1 Q0:Int} (hY:0 < Y) (_hu:0 <= u0) (_hu':u0 < 4294967296)
  (_h1:Q1 * Y <= U1 * 4294967296 + u1) (_h2:U1 * 4294967296 + u1 < (Q1 + 1) * Y)
  (h3:Q0 * Y <= (U1 * 4294967296 + u1 - Q1 * Y) * 4294967296 + u0) (h4:(U1 * 4294967296 + u1 - Q1 * Y) * 4294967296 + u0 < (Q0 + 1) * Y) :
  (U1 * 18446744073709551616 + u1 * 4294967296 + u0) / Y = Q1 * 4294967296 + Q0 /\
  (U1 * 18446744073709551616 + u1 * 4294967296 + u0) % Y = (U1 * 4294967296 + u1 - Q1 * Y) * 4294967296 + u0 - Q0 * Y:=by
 have e:(Q1 * 4294967296 + Q0) * Y = Q1 * Y * 4294967296 + Q0 * Y:=by rw [Int.add_mul,Int.mul_right_comm]
 have e':(Q1 * 4294967296 + Q0 + 1) * Y = Q1 * Y * 4294967296 + (Q0 + 1) * Y:=by rw [Int.add_assoc,Int.add_mul,Int.mul_right_comm]
 have:=div_of (n:=U1 * 18446744073709551616 + u1 * 4294967296 + u0) (q:=Q1 * 4294967296 + Q0) hY (by omega) (by omega)
 omega
theorem Js6 (U1 u1 Y:Int) (h0:0 <= U1) (h1:U1 < Y) (h2:0 <= u1) (h3:u1 < 4294967296) :
  ∃ Q,0 <= Q/\Q < 4294967296/\Q * Y <= U1 * 4294967296 + u1/\U1 * 4294967296 + u1 < (Q + 1) * Y:=by
 obtain ⟨a,b⟩:=Jgi (U1 * 4294967296 + u1) Y (by omega)
 refine ⟨_,?_,?_,a,b⟩
 ·exact Int.ediv_nonneg (by omega) (by omega)
 ·exact (Int.ediv_lt_iff_lt_mul (by omega)).2 (by omega)
theorem Jtt {n y:Int} (s:Nat) (hy:0 < y):(n * 2 ^ s) / (y * 2 ^ s) = n / y/\(n * 2 ^ s) % (y * 2 ^ s) / 2 ^ s = n % y:=by
 have hp:(0:Int) < 2 ^ s:=Int.pow_pos (by omega)
 have:=Jgi n y hy
 have a:n / y * (y * 2 ^ s) <= n * 2 ^ s:=by rw [<- Int.mul_assoc];exact Int.mul_le_mul_of_nonneg_right this.1 (by omega)
 have b:n * 2 ^ s < (n / y + 1) * (y * 2 ^ s):=by rw [<- Int.mul_assoc];exact Int.mul_lt_mul_of_pos_right this.2 hp
 have h:=div_of (Int.mul_pos hy hp) a b
 refine ⟨h.1,?_⟩
 have m:=Int.emod_add_mul_ediv n y
 have e:n * 2 ^ s - n / y * (y * 2 ^ s) = (n % y) * 2 ^ s:=by
  rw [<- Int.mul_assoc,<- Int.sub_mul]
  congr 1
  rw [Int.mul_comm];omega
 rw [h.2,e]
 exact Int.mul_ediv_cancel _ (by omega)
def fl (X c:Int):Int:=if c < 0 then (-X) / (-c) else X / c
theorem neg_div {T c:Int} (hc:0 < c):(-T) / c = if T % c = 0 then -(T / c) else -(T / c + 1):=by
 have a:=Int.emod_add_mul_ediv T c
 have b:=Int.emod_nonneg T (by omega:c ≠ 0)
 have d:=Int.emod_lt_of_pos T hc
 rw [Int.mul_comm] at a
 split
 ·refine (div_of hc ?_ ?_).1
  ·rw [Int.neg_mul];omega
  ·rw [Int.add_mul,Int.neg_mul];omega
 ·refine (div_of hc ?_ ?_).1
  ·rw [Int.neg_mul,Int.add_mul];omega
  ·rw [Int.neg_add,Int.neg_add_cancel_right,Int.neg_mul];omega
def isq:Nat->Nat
 | 0=>0
 | n + 1=>if (isq n + 1) * (isq n + 1) <= n + 1 then isq n + 1 else isq n
theorem isq_is (n:Nat):isq n * isq n <= n/\n < (isq n + 1) * (isq n + 1):=by
 induction n with
 | zero=>simp [isq]
 | succ n ih =>
  simp only [isq]
  split
  ·refine ⟨by assumption,?_⟩
   have:(isq n + 1 + 1) * (isq n + 1 + 1) = (isq n + 1) * (isq n + 1) + 2 * isq n + 3:=by grind
   omega
  ·omega
theorem isq_of {X r:Int} (h0:0 <= r) (h1:r * r <= X) (h2:X < (r + 1) * (r + 1)):r = (isq X.toNat:Int):=by
 have hX:0 <= X:=Int.le_trans (Int.mul_nonneg h0 h0) h1
 obtain ⟨x,rfl⟩:=Int.eq_ofNat_of_zero_le hX
 obtain ⟨r,rfl⟩:=Int.eq_ofNat_of_zero_le h0
 obtain ⟨a,b⟩:=isq_is x
 simp only [Int.toNat_natCast]
 have h1:r * r <= x:=by exact_mod_cast h1
 have h2:x < (r + 1) * (r + 1):=by exact_mod_cast h2
 have c:r < isq x + 1:=by
  apply Nat.lt_of_not_le;intro h
  have:=Nat.mul_le_mul h h;omega
 have d:isq x < r + 1:=by
  apply Nat.lt_of_not_le;intro h
  have:=Nat.mul_le_mul h h;omega
 omega
def great (n:Int):Bool:=decide (n < -4611686018427387903) || decide (4611686018427387903 < n)
theorem great_iff (n:Int):great n = true ↔ n < -4611686018427387903 \/ 4611686018427387903 < n:=by simp [great]
theorem not_great (n:Int):great n = false ↔ -4611686018427387903 <= n/\n <= 4611686018427387903:=by simp [great]
def told (n:Int):Option Int:=if great n then none else some n
def add (a b:Int):Option Int:=if great a || great b then none else told (a + b)
def sub (a b:Int):Option Int:=if great a || great b then none else told (a - b)
def mul (a b:Int):Option Int:=if great a || great b then none else told (a * b / 4294967296)
def Ju (a b c:Int):Option Int:=if c = 0 then none else if great a || (great b || great c) then none else told (fl (a * b) c)
def Juk (a:Int):Option Int:=if a < 0 then none else if great a then none else told (isq (a * 4294967296).toNat)
def Jad:List Int->List Int->Int
 | a :: l,b :: m=>a * b + Jad l m
 | _,_=>0
theorem Jd5:∀ (k:Nat) (l m:List Int),k < l.length->k < m.length->Jad (l.take (k + 1)) (m.take (k + 1)) = Jad (l.take k) (m.take k) + l.getD k 0 * m.getD k 0
 | 0,a :: l,b :: m,_,_=>by simp [Jad]
 | k + 1,a :: l,b :: m,h,h'=>by
  have:=Jd5 k l m (by simpa using h) (by simpa using h')
  simp only [List.take_succ_cons,Jad,List.getD_cons_succ] at this ⊢
  rw [this];omega
 | _,[],_,h,_=>by simp at h
 | _,_ :: _,[],_,h=>by simp at h
theorem Jdb:∀ (l m:List Int),l.any great = false->m.any great = false->(Jad l m).natAbs <= l.length * 21267647932558653957237540927630737409
 | [],_,_,_=>by simp [Jad]
 | _ :: _,[],_,_=>by simp [Jad]
 | a :: l,b :: m,h,h'=>by
  simp only [List.any_cons,Bool.or_eq_false_iff] at h h'
  have:=Jdb l m h.2 h'.2
  have ha:=(not_great a).1 h.1
  have hb:=(not_great b).1 h'.1
  have hp:(a * b).natAbs <= 4611686018427387903 * 4611686018427387903:=by rw [Int.natAbs_mul];exact Nat.mul_le_mul (by omega) (by omega)
  simp only [Jad,List.length_cons]
  omega
theorem Jd0:∀ (l:List Int),0 <= Jad l l
 | []=>by simp [Jad]
 | a :: l=>by
  have:=Jd0 l
  have h:0 <= a * a:=by
   rcases Int.le_total 0 a with g | g
   ·exact Int.mul_nonneg g g
   ·exact Int.mul_nonneg_of_nonpos_of_nonpos g g
  simp only [Jad];omega
theorem Jj5 {l:List Int} (k:Nat) (h:l.any great = false):(l.take k).any great = false:=by
 rw [List.any_eq_false] at h ⊢
 exact fun x hx=>h x (List.mem_of_mem_take hx)
theorem Jcz {l:List Int} {k:Nat} (h:l.any great = false) (hk:k < l.length):great (l.getD k 0) = false:=by
 rw [List.any_eq_false] at h
 have:=h _ (List.getElem_mem hk)
 simpa [List.getD_eq_getElem?_getD,List.getElem?_eq_getElem hk] using this
def dot (l m:List Int):Option Int:=if l.length ≠ m.length then none else if 8 < l.length then none else if l.any great || m.any great then none else told (Jad l m / 4294967296)
def Jae (l:List Int):Option Int:=if 8 < l.length then none else if l.any great then none else told (isq (Jad l l).toNat)
end Fx
end
section
open Go.RowKit Fx
theorem Jm8 (hi lo y:Int) (s:Nat) (hs:(64:Int) - (bitLen y.toNat:Int) = s) (hh0:1 <= hi) (hh:hi < y) (hl0:0 <= lo) (hl:lo < 18446744073709551616) (hy:y < 4611686018427387904) :
  1 <= s/\s <= 63/\∃ Y y1 y0 U1 L u1 u0:Int,
   IntKind.u64.wrap (y * 2 ^ s) = Y/\Y / 4294967296 = y1/\bits .and .u64 Y 4294967295 = y0/\Y = y1 * 4294967296 + y0/\0 <= y0/\y0 < 4294967296/\2147483648 <= y1/\y1 < 4294967296 /\
   bits .or .u64 (IntKind.u64.wrap (hi * 2 ^ s)) (lo / 2 ^ (64 - s)) = U1/\0 <= U1/\U1 < Y /\
   IntKind.u64.wrap (lo * 2 ^ s) = L/\L / 4294967296 = u1/\bits .and .u64 L 4294967295 = u0/\0 <= u1/\u1 < 4294967296/\0 <= u0/\u0 < 4294967296 /\
   Y = y * 2 ^ s/\(hi * 18446744073709551616 + lo) * 2 ^ s = U1 * 18446744073709551616 + u1 * 4294967296 + u0:=by
 obtain ⟨b1,b2⟩:=bitLen_spec y.toNat
 have b2:=b2 (by omega)
 generalize hb:bitLen y.toNat = b at *
 have hb62:b <= 62:=by
  by_cases g:b <= 62
  ·exact g
  ·exfalso
   have:=Nat.pow_le_pow_right (n:=2) (by omega) (show 62 <= b - 1 by omega)
   omega
 have hb1:1 <= b:=by
  rcases Nat.eq_zero_or_pos b with h0 | h0
  ·rw [h0] at b1;simp at b1;omega
  ·exact h0
 have hs1:1 <= s:=by omega
 have hs2:s <= 63:=by omega
 refine ⟨hs1,hs2,?_⟩
 have p1:(2:Nat) ^ (b - 1) * 2 ^ s = 9223372036854775808:=by rw [<- Nat.pow_add,show b - 1 + s = 63 by omega]
 have p2:(2:Nat) ^ b * 2 ^ s = 18446744073709551616:=by rw [<- Nat.pow_add,show b + s = 64 by omega]
 have p3:(2:Nat) ^ (64 - s) * 2 ^ s = 18446744073709551616:=by rw [<- Nat.pow_add,show 64 - s + s = 64 by omega]
 have hp:0 < (2:Nat) ^ s:=Nat.two_pow_pos s
 have hp':0 < (2:Nat) ^ (64 - s):=Nat.two_pow_pos _
 obtain ⟨Y,rfl⟩:=Int.eq_ofNat_of_zero_le (show 0 <= y by omega)
 obtain ⟨H,rfl⟩:=Int.eq_ofNat_of_zero_le (show 0 <= hi by omega)
 obtain ⟨L,rfl⟩:=Int.eq_ofNat_of_zero_le hl0
 simp only [Int.toNat_natCast] at b1 b2
 have q1:9223372036854775808 <= Y * 2 ^ s:=by rw [<- p1];exact Nat.mul_le_mul_right _ b2
 have q2:Y * 2 ^ s < 18446744073709551616:=by rw [<- p2];exact Nat.mul_lt_mul_of_pos_right b1 hp
 have q3:H * 2 ^ s + 2 ^ s <= Y * 2 ^ s:=by rw [<- Nat.succ_mul];exact Nat.mul_le_mul_right _ (by omega)
 have c1:((Y:Int) * 2 ^ s) = ((Y * 2 ^ s:Nat):Int):=by simp
 have c2:((H:Int) * 2 ^ s) = ((H * 2 ^ s:Nat):Int):=by simp
 have c3:((L:Int) * 2 ^ s) = ((L * 2 ^ s:Nat):Int):=by simp
 have c4:((L:Int) / 2 ^ (64 - s)) = ((L / 2 ^ (64 - s):Nat):Int):=by simp
 have d1:L / 2 ^ (64 - s) < 2 ^ s:=by
  rw [Nat.div_lt_iff_lt_mul hp',Nat.mul_comm,p3];omega
 have d2:L * 2 ^ s = L / 2 ^ (64 - s) * 18446744073709551616 + L * 2 ^ s % 18446744073709551616:=by
  have e:=Nat.div_add_mod L (2 ^ (64 - s))
  have m:L % 2 ^ (64 - s) * 2 ^ s < 18446744073709551616:=by rw [<- p3];exact Nat.mul_lt_mul_of_pos_right (Nat.mod_lt _ hp') hp
  have e2:L * 2 ^ s = L / 2 ^ (64 - s) * 18446744073709551616 + L % 2 ^ (64 - s) * 2 ^ s:=by
   have:L * 2 ^ s = (2 ^ (64 - s) * (L / 2 ^ (64 - s)) + L % 2 ^ (64 - s)) * 2 ^ s:=by rw [e]
   rw [this,Nat.add_mul,Nat.mul_right_comm,p3,Nat.mul_comm 18446744073709551616]
  omega
 have hor:bits .or .u64 (IntKind.u64.wrap ((H:Int) * 2 ^ s)) ((L:Int) / 2 ^ (64 - s)) = ((H * 2 ^ s + L / 2 ^ (64 - s):Nat):Int):=by
  rw [IntKind.wrap_u64,c2,c4,show ((H * 2 ^ s:Nat):Int) % 18446744073709551616 = ((H * 2 ^ s:Nat):Int) by omega,u64_or_nat _ _ (by omega) (by omega),nat_join s _ _ (Nat.mul_mod_left _ _) d1]
 have htot:((H:Int) * 18446744073709551616 + L) * 2 ^ s = ((H * 2 ^ s:Nat):Int) * 18446744073709551616 + ((L * 2 ^ s:Nat):Int):=by
  rw [<- c2,<- c3,Int.add_mul,Int.mul_right_comm]
 rw [hor,htot,c1,c3]
 generalize Y * 2 ^ s = A at *
 generalize H * 2 ^ s = B at *
 generalize L * 2 ^ s = C at *
 generalize L / 2 ^ (64 - s) = D at *
 have wA:IntKind.u64.wrap (A:Int) = (A:Int):=by rw [IntKind.wrap_u64];omega
 have wC:IntKind.u64.wrap (C:Int) = ((C % 18446744073709551616:Nat):Int):=by rw [IntKind.wrap_u64];omega
 have aA:=and_low32 (A:Int) (by omega) (by omega)
 have aC:=and_low32 ((C % 18446744073709551616:Nat):Int) (by omega) (by omega)
 rw [wA,wC]
 exact ⟨A,_,_,_,_,_,_,rfl,rfl,aA,by omega,by omega,by omega,by omega,by omega,rfl,by omega,by omega,rfl,rfl,aC,by omega,by omega,by omega,by omega,rfl,by omega⟩
theorem Jqo (lo y:Int) (w:World) (hl0:0 <= lo) (hl:lo < 18446744073709551616) (hy0:1 <= y) (hy:y < 4611686018427387904) :
  Calls Tryz.prog 166 #[.int .u64 0,.int .u64 lo,.int .u64 y] w fun e w'=>e = .returned (.tuple #[.int .u64 (lo / y),.int .u64 (lo % y)])/\w' = w.drew:=by
 have hyz:(y == 0) = false:=by simp;omega
 have hb1:0 <= lo / y:=Int.ediv_nonneg hl0 (by omega)
 have hb2:lo / y <= lo:=Int.ediv_le_self _ hl0
 go_enter func166,ntmps166
 go_wp2
 go_region
 all_goals go_wp2
 all_goals go_ret2
 all_goals exact ⟨rfl,rfl⟩
theorem Jrj (hi lo y:Int) (w:World) (hh0:1 <= hi) (hh:hi < y) (hl0:0 <= lo) (hl:lo < 18446744073709551616) (hy:y < 4611686018427387904) :
  Calls Tryz.prog 166 #[.int .u64 hi,.int .u64 lo,.int .u64 y] w fun e w'=>e = .returned (.tuple #[.int .u64 ((hi * 18446744073709551616 + lo) / y),.int .u64 ((hi * 18446744073709551616 + lo) % y)])/\w' = w:=by
 have hyz:(y == 0) = false:=by simp;omega
 have hhz:(hi == 0) = false:=by simp;omega
 have hbl:=Jdd y (by omega) (by omega)
 obtain ⟨s,hs⟩:∃ s:Nat,(64:Int) - (bitLen y.toNat:Int) = s:=⟨64 - bitLen y.toNat,by omega⟩
 obtain ⟨hs1,hs2,Y,y1,y0,U1,L,u1,u0,hY,hy1,hy0,hYe,hy00,hy01,hy10,hy11,hU,hU0,hU1,hL,hu1,hu0,hu10,hu11,hu00,hu01,hYs,htot⟩:=Jm8 hi lo y s hs hh0 hh hl0 hl hy
 have YE:Hid (Y = y1 * 4294967296 + y0):=hYe
 have YS:Hid (Y = y * 2 ^ s):=hYs
 have TOT:Hid ((hi * 18446744073709551616 + lo) * 2 ^ s = U1 * 18446744073709551616 + u1 * 4294967296 + u0):=htot
 have HS:Hid (64 - (bitLen y.toNat:Int) = s):=hs
 clear hYe hYs htot
 obtain ⟨Q1,hQ10,hQ11,hQ1a,hQ1b⟩:=Js6 U1 u1 Y hU0 hU1 hu10 hu11
 obtain ⟨R,hR⟩:∃ R,R = U1 * 4294967296 + u1 - Q1 * Y:=⟨_,rfl⟩
 have hR0:0 <= R:=by omega
 have hR1:R < Y:=by have:=Int.add_mul Q1 1 Y;omega
 have hun:IntKind.u64.wrap (IntKind.u64.wrap (IntKind.u64.wrap (U1 * 4294967296) + u1) - IntKind.u64.wrap (Q1 * Y)) = R:=by
  simp only [IntKind.wrap_u64];omega
 obtain ⟨Q0,hQ00,hQ01,hQ0a,hQ0b⟩:=Js6 R u0 Y hR0 hR1 hu00 hu01
 obtain ⟨R0,hR0e⟩:∃ R0,R0 = R * 4294967296 + u0 - Q0 * Y:=⟨_,rfl⟩
 have hR00:0 <= R0:=by omega
 have hR01:R0 < Y:=by have:=Int.add_mul Q0 1 Y;omega
 have hun0:IntKind.u64.wrap (IntKind.u64.wrap (IntKind.u64.wrap (R * 4294967296) + u0) - IntKind.u64.wrap (Q0 * Y)) = R0:=by
  simp only [IntKind.wrap_u64];omega
 have FIN:Hid ((hi * 18446744073709551616 + lo) / y = Q1 * 4294967296 + Q0/\(hi * 18446744073709551616 + lo) % y = R0 / 2 ^ s):=by
  have a:=Jm9 (Q1:=Q1) (Q0:=Q0) (U1:=U1) (u1:=u1) (u0:=u0) (Y:=Y) (by omega) hu00 hu01 hQ1a hQ1b (by rw [<- hR];exact hQ0a) (by rw [<- hR];exact hQ0b)
  rw [<- hR,<- hR0e,<- TOT.out,YS.out] at a
  have b:=Jtt (n:=hi * 18446744073709551616 + lo) s (show 0 < y by omega)
  rw [a.1,a.2] at b
  exact ⟨b.1.symm,b.2.symm⟩
 have J0:Hid _:=Jiw (Q:=Q1) hU0 (by rw [<- YE.out];exact hU1) hu10 hu11 hy00 hy01 hy10 hQ10 (by rw [<- YE.out];exact hQ1a)
 have K0:Hid _:=Jiw (Q:=Q0) hR0 (by rw [<- YE.out];exact hR1) hu00 hu01 hy00 hy01 hy10 hQ00 (by rw [<- YE.out];exact hQ0a)
 have QA:Hid (Q1 * (y1 * 4294967296 + y0) <= U1 * 4294967296 + u1):=by rw [<- YE.out];exact hQ1a
 have QB:Hid (U1 * 4294967296 + u1 < (Q1 + 1) * (y1 * 4294967296 + y0)):=by rw [<- YE.out];exact hQ1b
 have PA:Hid (Q0 * (y1 * 4294967296 + y0) <= R * 4294967296 + u0):=by rw [<- YE.out];exact hQ0a
 have PB:Hid (R * 4294967296 + u0 < (Q0 + 1) * (y1 * 4294967296 + y0)):=by rw [<- YE.out];exact hQ0b
 have hU1':Hid (U1 < y1 * 4294967296 + y0):=by rw [<- YE.out];exact hU1
 have hR1':Hid (R < y1 * 4294967296 + y0):=by rw [<- YE.out];exact hR1
 have hqb:0 <= U1 / y1/\U1 / y1 <= 4294967297:=by have:=J0.out.1.2.2;omega
 have hqb0:0 <= R / y1/\R / y1 <= 4294967297:=by have:=K0.out.1.2.2;omega
 have hrh:IntKind.u64.wrap (U1 - IntKind.u64.wrap (U1 / y1 * y1)) = U1 % y1:=by
  have a:=J0.out.1.1;have b:=J0.out.2;have c:=J0.out.1.2.1;simp only [IntKind.wrap_u64];omega
 have hrh0:IntKind.u64.wrap (R - IntKind.u64.wrap (R / y1 * y1)) = R % y1:=by
  have a:=K0.out.1.1;have b:=K0.out.2;have c:=K0.out.1.2.1;simp only [IntKind.wrap_u64];omega
 have HR:Hid (R = U1 * 4294967296 + u1 - Q1 * Y):=hR
 clear hQ1a hQ1b hQ0a hQ0b hR hR0e
 have STEP:Hid (∀ q r:Int,Inv U1 y1 Q1 q r->r < 4294967296->(4294967296 <= q \/ 4294967296 * r + u1 < q * y0)->Inv U1 y1 Q1 (q - 1) (r + y1)/\(4294967296 <= r + y1->q - 1 = Q1)):=by
  intro q r hI _ hc
  have h:=Jkr hU1'.out hu10 hu11 hy00 hy10 QA.out hI hc
  exact ⟨h,fun g=>Jis hy00 hy01 hy10 hu10 QB.out h (by have:=hI.2.2.2;omega) g⟩
 have STEP0:Hid (∀ q r:Int,Inv R y1 Q0 q r->r < 4294967296->(4294967296 <= q \/ 4294967296 * r + u0 < q * y0)->Inv R y1 Q0 (q - 1) (r + y1)/\(4294967296 <= r + y1->q - 1 = Q0)):=by
  intro q r hI _ hc
  have h:=Jkr hR1'.out hu00 hu01 hy00 hy10 PA.out hI hc
  exact ⟨h,fun g=>Jis hy00 hy01 hy10 hu00 PB.out h (by have:=hI.2.2.2;omega) g⟩
 have hm:Hid (∀ q:Int,0 <= q->q < 4294967296->0 <= q * y0/\q * y0 < 18446744073709551616):=by
  intro q a b
  have:=Int.mul_nonneg a hy00
  have:=Int.mul_le_mul (show q <= 4294967295 by omega) (show y0 <= 4294967295 by omega) hy00 (by omega)
  omega
 go_enter func166,ntmps166
 go_wp2_with (go_at_call 170;refine (Jpw y _ (by omega) (by omega)).mono ?_;rintro e w' ⟨rfl,rfl⟩)
 go_loop [15,16] (fun a b=>∃ q r:Int,a = .int .u64 q/\b = .int .u64 r/\Hid (Inv U1 y1 Q1 q r)/\r < 4294967296) (fun a _=>(intOf a).toNat)
 case atStart=>exact ⟨_,_,rfl,rfl,J0.out.1,by have:=J0.out.2;omega⟩
 case round =>
  obtain ⟨q,r,rfl,rfl,HI,hr⟩:=hrel
  have hI:=HI.out
  have hq0:Q1 <= q:=hI.2.2.1
  have hq1:q <= 4294967297:=hI.2.2.2
  have hr0:0 <= r:=hI.2.1
  clear hI
  have hmq:=hm.out q (by omega)
  by_cases hA:4294967296 <= q
  ·have hS:=STEP.out q r HI.out hr (Or.inl hA)
   have S1:Hid (Inv U1 y1 Q1 (q - 1) (r + y1)):=hS.1
   have hq2:Q1 <= q - 1:=hS.1.2.2.1
   clear hmq
   by_cases hbr:4294967296 <= r + y1
   ·obtain rfl:q = Q1 + 1:=by have:=hS.2 hbr;omega
    clear hS
    go_wp2
    go_loop [18,16] (fun a b=>∃ q r:Int,a = .int .u64 q/\b = .int .u64 r/\Hid (Inv R y1 Q0 q r)/\r < 4294967296) (fun a _=>(intOf a).toNat)
    case atStart=>exact ⟨_,_,rfl,rfl,K0.out.1,by have:=K0.out.2;omega⟩
    case round =>
     obtain ⟨p,t,rfl,rfl,HI0,ht⟩:=hrel
     have hI:=HI0.out
     have hp0:Q0 <= p:=hI.2.2.1
     have hp1:p <= 4294967297:=hI.2.2.2
     have ht0:0 <= t:=hI.2.1
     clear hI
     by_cases hA0:4294967296 <= p
     ·have hS:=STEP0.out p t HI0.out ht (Or.inl hA0)
      have S1:Hid (Inv R y1 Q0 (p - 1) (t + y1)):=hS.1
      have hp2:Q0 <= p - 1:=hS.1.2.2.1
      by_cases hbr0:4294967296 <= t + y1
      ·obtain rfl:p = Q0 + 1:=by have:=hS.2 hbr0;omega
       clear hS
       go_wp2
       go_ret2
       refine ⟨?_,rfl⟩
       rw [FIN.out.1,FIN.out.2]
       rfl
      ·clear hS
       go_wp2
       go_round
       case rel=>exact ⟨_,_,rfl,rfl,S1,by omega⟩
       case measure=>simp [intOf];omega
     ·have hmq:=hm.out p (by omega) (by omega)
      by_cases hB0:4294967296 * t + u0 < p * y0
      ·have hS:=STEP0.out p t HI0.out ht (Or.inr hB0)
       have S1:Hid (Inv R y1 Q0 (p - 1) (t + y1)):=hS.1
       have hp2:Q0 <= p - 1:=hS.1.2.2.1
       by_cases hbr0:4294967296 <= t + y1
       ·obtain rfl:p = Q0 + 1:=by have:=hS.2 hbr0;omega
        clear hS
        go_wp2
        go_ret2
        refine ⟨?_,rfl⟩
        rw [FIN.out.1,FIN.out.2]
        rfl
       ·clear hS
        go_wp2
        go_round
        case rel=>exact ⟨_,_,rfl,rfl,S1,by omega⟩
        case measure=>simp [intOf];omega
      ·obtain rfl:p = Q0:=Jfq hy00 hy10 PB.out HI0.out (by omega)
       go_wp2
       go_ret2
       refine ⟨?_,rfl⟩
       rw [FIN.out.1,FIN.out.2]
       rfl
   ·clear hS
    go_wp2
    go_round
    case rel=>exact ⟨_,_,rfl,rfl,S1,by omega⟩
    case measure=>simp [intOf];omega
  ·have hmq:=hmq (by omega)
   by_cases hB:4294967296 * r + u1 < q * y0
   ·have hS:=STEP.out q r HI.out hr (Or.inr hB)
    have S1:Hid (Inv U1 y1 Q1 (q - 1) (r + y1)):=hS.1
    have hq2:Q1 <= q - 1:=hS.1.2.2.1
    by_cases hbr:4294967296 <= r + y1
    ·obtain rfl:q = Q1 + 1:=by have:=hS.2 hbr;omega
     clear hS
     go_wp2
     go_loop [18,16] (fun a b=>∃ q r:Int,a = .int .u64 q/\b = .int .u64 r/\Hid (Inv R y1 Q0 q r)/\r < 4294967296) (fun a _=>(intOf a).toNat)
     case atStart=>exact ⟨_,_,rfl,rfl,K0.out.1,by have:=K0.out.2;omega⟩
     case round =>
      obtain ⟨p,t,rfl,rfl,HI0,ht⟩:=hrel
      have hI:=HI0.out
      have hp0:Q0 <= p:=hI.2.2.1
      have hp1:p <= 4294967297:=hI.2.2.2
      have ht0:0 <= t:=hI.2.1
      clear hI
      by_cases hA0:4294967296 <= p
      ·have hS:=STEP0.out p t HI0.out ht (Or.inl hA0)
       have S1:Hid (Inv R y1 Q0 (p - 1) (t + y1)):=hS.1
       have hp2:Q0 <= p - 1:=hS.1.2.2.1
       by_cases hbr0:4294967296 <= t + y1
       ·obtain rfl:p = Q0 + 1:=by have:=hS.2 hbr0;omega
        clear hS
        go_wp2
        go_ret2
        refine ⟨?_,rfl⟩
        rw [FIN.out.1,FIN.out.2]
        rfl
       ·clear hS
        go_wp2
        go_round
        case rel=>exact ⟨_,_,rfl,rfl,S1,by omega⟩
        case measure=>simp [intOf];omega
      ·have hmq:=hm.out p (by omega) (by omega)
       by_cases hB0:4294967296 * t + u0 < p * y0
       ·have hS:=STEP0.out p t HI0.out ht (Or.inr hB0)
        have S1:Hid (Inv R y1 Q0 (p - 1) (t + y1)):=hS.1
        have hp2:Q0 <= p - 1:=hS.1.2.2.1
        by_cases hbr0:4294967296 <= t + y1
        ·obtain rfl:p = Q0 + 1:=by have:=hS.2 hbr0;omega
         clear hS
         go_wp2
         go_ret2
         refine ⟨?_,rfl⟩
         rw [FIN.out.1,FIN.out.2]
         rfl
        ·clear hS
         go_wp2
         go_round
         case rel=>exact ⟨_,_,rfl,rfl,S1,by omega⟩
         case measure=>simp [intOf];omega
       ·obtain rfl:p = Q0:=Jfq hy00 hy10 PB.out HI0.out (by omega)
        go_wp2
        go_ret2
        refine ⟨?_,rfl⟩
        rw [FIN.out.1,FIN.out.2]
        rfl
    ·clear hS
     go_wp2
     go_round
     case rel=>exact ⟨_,_,rfl,rfl,S1,by omega⟩
     case measure=>simp [intOf];omega
   ·obtain rfl:q = Q1:=Jfq hy00 hy10 QB.out HI.out (by omega)
    go_wp2
    go_loop [18,16] (fun a b=>∃ q r:Int,a = .int .u64 q/\b = .int .u64 r/\Hid (Inv R y1 Q0 q r)/\r < 4294967296) (fun a _=>(intOf a).toNat)
    case atStart=>exact ⟨_,_,rfl,rfl,K0.out.1,by have:=K0.out.2;omega⟩
    case round =>
     obtain ⟨p,t,rfl,rfl,HI0,ht⟩:=hrel
     have hI:=HI0.out
     have hp0:Q0 <= p:=hI.2.2.1
     have hp1:p <= 4294967297:=hI.2.2.2
     have ht0:0 <= t:=hI.2.1
     clear hI
     by_cases hA0:4294967296 <= p
     ·have hS:=STEP0.out p t HI0.out ht (Or.inl hA0)
      have S1:Hid (Inv R y1 Q0 (p - 1) (t + y1)):=hS.1
      have hp2:Q0 <= p - 1:=hS.1.2.2.1
      by_cases hbr0:4294967296 <= t + y1
      ·obtain rfl:p = Q0 + 1:=by have:=hS.2 hbr0;omega
       clear hS
       go_wp2
       go_ret2
       refine ⟨?_,rfl⟩
       rw [FIN.out.1,FIN.out.2]
       rfl
      ·clear hS
       go_wp2
       go_round
       case rel=>exact ⟨_,_,rfl,rfl,S1,by omega⟩
       case measure=>simp [intOf];omega
     ·have hmq:=hm.out p (by omega) (by omega)
      by_cases hB0:4294967296 * t + u0 < p * y0
      ·have hS:=STEP0.out p t HI0.out ht (Or.inr hB0)
       have S1:Hid (Inv R y1 Q0 (p - 1) (t + y1)):=hS.1
       have hp2:Q0 <= p - 1:=hS.1.2.2.1
       by_cases hbr0:4294967296 <= t + y1
       ·obtain rfl:p = Q0 + 1:=by have:=hS.2 hbr0;omega
        clear hS
        go_wp2
        go_ret2
        refine ⟨?_,rfl⟩
        rw [FIN.out.1,FIN.out.2]
        rfl
       ·clear hS
        go_wp2
        go_round
        case rel=>exact ⟨_,_,rfl,rfl,S1,by omega⟩
        case measure=>simp [intOf];omega
      ·obtain rfl:p = Q0:=Jfq hy00 hy10 PB.out HI0.out (by omega)
       go_wp2
       go_ret2
       refine ⟨?_,rfl⟩
       rw [FIN.out.1,FIN.out.2]
       rfl
end
section
open Go.RowKit Fx
theorem Jme (a b:Int) (ha0:0 <= a) (ha:a < 9223372036854775808) (hb0:0 <= b) (hb:b < 9223372036854775808):0 <= a * b/\a * b < 85070591730234615865843651857942052864:=by
 have h1:=Int.mul_nonneg ha0 hb0
 have h2:=Int.mul_le_mul (show a <= 9223372036854775807 by omega) (show b <= 9223372036854775807 by omega) hb0 (by omega)
 omega
theorem Jdc (a b:Int) (w:World) (ha0:-9223372036854775808 <= a) (ha:a < 9223372036854775808) (hb0:-9223372036854775808 <= b) (hb:b < 9223372036854775808) :
  Calls Tryz.prog 122 #[J I a,J I b] w fun e w'=>e = .returned (.agg #[.int .u64 (a * b / 18446744073709551616 % 18446744073709551616),.int .u64 (a * b % 18446744073709551616)])/\Below w.heap.size w w':=by
 by_cases ga:a < 0
 ·obtain ⟨ua,hua⟩:∃ u,u = a + 18446744073709551616:=⟨_,rfl⟩
  have hwa:IntKind.u64.wrap a = ua:=by rw [IntKind.wrap_u64];omega
  have hu0:0 <= ua:=by omega
  have hu1:ua < 18446744073709551616:=by omega
  by_cases gb:b < 0
  ·obtain ⟨ub,hub⟩:∃ u,u = b + 18446744073709551616:=⟨_,rfl⟩
   have hwb:IntKind.u64.wrap b = ub:=by rw [IntKind.wrap_u64];omega
   have hv0:0 <= ub:=by omega
   have hv1:ub < 18446744073709551616:=by omega
   have hq:IntKind.u64.wrap (IntKind.u64.wrap (ua * ub / 18446744073709551616 - ub) - ua) = a * b / 18446744073709551616 % 18446744073709551616:=by
    rw [hua,hub,Int.add_mul,Int.mul_add,IntKind.wrap_u64,IntKind.wrap_u64];omega
   have hm:ua * ub % 18446744073709551616 = a * b % 18446744073709551616:=by rw [hua,hub,Int.add_mul,Int.mul_add];omega
   clear hua hub
   go_enter func122,ntmps122
   go_wp2_with (go_at_call 145;refine (Jdq _ _ _ ?_ ?_ ?_ ?_).mono ?_;(omega);(omega);(omega);(omega);rintro e w' ⟨rfl,rfl⟩)
   go_returns
   exact ⟨rfl,by go_grown⟩
  ·have hq:IntKind.u64.wrap (ua * b / 18446744073709551616 - b) = a * b / 18446744073709551616 % 18446744073709551616:=by
    rw [hua,Int.add_mul,IntKind.wrap_u64];omega
   have hm:ua * b % 18446744073709551616 = a * b % 18446744073709551616:=by rw [hua,Int.add_mul];omega
   clear hua
   go_enter func122,ntmps122
   go_wp2_with (go_at_call 145;refine (Jdq _ _ _ ?_ ?_ ?_ ?_).mono ?_;(omega);(omega);(omega);(omega);rintro e w' ⟨rfl,rfl⟩)
   go_returns
   exact ⟨rfl,by go_grown⟩
 ·by_cases gb:b < 0
  ·obtain ⟨ub,hub⟩:∃ u,u = b + 18446744073709551616:=⟨_,rfl⟩
   have hwb:IntKind.u64.wrap b = ub:=by rw [IntKind.wrap_u64];omega
   have hv0:0 <= ub:=by omega
   have hv1:ub < 18446744073709551616:=by omega
   have hq:IntKind.u64.wrap (a * ub / 18446744073709551616 - a) = a * b / 18446744073709551616 % 18446744073709551616:=by
    rw [hub,Int.mul_add,IntKind.wrap_u64];omega
   have hm:a * ub % 18446744073709551616 = a * b % 18446744073709551616:=by rw [hub,Int.mul_add];omega
   clear hub
   go_enter func122,ntmps122
   go_wp2_with (go_at_call 145;refine (Jdq _ _ _ ?_ ?_ ?_ ?_).mono ?_;(omega);(omega);(omega);(omega);rintro e w' ⟨rfl,rfl⟩)
   go_returns
   exact ⟨rfl,by go_grown⟩
  ·have hp:=Jme a b (by omega) ha (by omega) hb
   have hq:a * b / 18446744073709551616 % 18446744073709551616 = a * b / 18446744073709551616:=by omega
   go_enter func122,ntmps122
   go_wp2_with (go_at_call 145;refine (Jdq _ _ _ ?_ ?_ ?_ ?_).mono ?_;(omega);(omega);(omega);(omega);rintro e w' ⟨rfl,rfl⟩)
   go_returns
   exact ⟨by rw [hq],by go_grown⟩
theorem Jkg (X Y:Int) (w:World) :
  Calls Tryz.prog 142 #[.agg #[.int .u64 (X / 18446744073709551616 % 18446744073709551616),.int .u64 (X % 18446744073709551616)],.agg #[.int .u64 (Y / 18446744073709551616 % 18446744073709551616),.int .u64 (Y % 18446744073709551616)]] w fun e w' =>
   e = .returned (.agg #[.int .u64 ((X + Y) / 18446744073709551616 % 18446744073709551616),.int .u64 ((X + Y) % 18446744073709551616)])/\Below w.heap.size w w':=by
 obtain ⟨l1,hl1⟩:∃ u,u = X % 18446744073709551616:=⟨_,rfl⟩
 obtain ⟨l2,hl2⟩:∃ u,u = Y % 18446744073709551616:=⟨_,rfl⟩
 obtain ⟨h1,hh1⟩:∃ u,u = X / 18446744073709551616 % 18446744073709551616:=⟨_,rfl⟩
 obtain ⟨h2,hh2⟩:∃ u,u = Y / 18446744073709551616 % 18446744073709551616:=⟨_,rfl⟩
 rw [<- hl1,<- hl2,<- hh1,<- hh2]
 have e1:(h1 + h2 + (l1 + l2) / 18446744073709551616) % 18446744073709551616 = (X + Y) / 18446744073709551616 % 18446744073709551616:=by omega
 have e2:(l1 + l2) % 18446744073709551616 = (X + Y) % 18446744073709551616:=by omega
 have r1:=fun w=>Jik l1 l2 0 w (by omega) (by omega) (by omega) (by omega)
 have r2:=fun w=>Jik h1 h2 ((l1 + l2) / 18446744073709551616) w (by omega) (by omega) (by omega) (by omega)
 clear hl1 hl2 hh1 hh2
 go_enter func142,ntmps142
 go_wp2
 go_returns
 exact ⟨rfl,by go_grown⟩
theorem Jr2 {k:IntKind} {a b:Int} (h:a = b):Ending.returned (.int k a) = .returned (.int k b):=by rw [h]
theorem Jhp {a b:Bool} (h:a = b):Ending.returned (.bool a) = .returned (.bool b):=by rw [h]
theorem Jrh {k:IntKind} {a b:Int} {c d:Bool} (h:a = b) (h':c = d):Ending.returned (.tuple #[.int k a,.bool c]) = .returned (.tuple #[.int k b,.bool d]):=by rw [h,h']
theorem Jg8 (X:Int) (w:World) (h0:-170141183460469231731687303715884105728 <= X) (h1:X < 170141183460469231731687303715884105728) :
  Calls Tryz.prog 167 #[.agg #[.int .u64 (X / 18446744073709551616 % 18446744073709551616),.int .u64 (X % 18446744073709551616)]] w fun e w' =>
   e = .returned (.bool (decide (X < 0)))/\Below w.heap.size w w':=by
 go_enter func167,ntmps167
 go_wp2
 go_returns
 refine ⟨Jhp ?_,by go_grown⟩
 rw [decide_eq_decide]
 unfold wrap64
 omega
theorem Jiq (X:Int):bits .or .u64 (IntKind.u64.wrap (X / 18446744073709551616 % 18446744073709551616 * 4294967296)) (X % 18446744073709551616 / 4294967296) = X / 4294967296 % 18446744073709551616:=by
 rw [IntKind.wrap_u64,u64_or _ _ (by omega) (by omega) (by omega) (by omega),nat_join 32 _ _ (by omega) (by omega)]
 omega
theorem Jiu (X:Int) (w:World) (h0:-170141183460469231731687303715884105728 <= X) (h1:X < 170141183460469231731687303715884105728) :
  Calls Tryz.prog 123 #[.agg #[.int .u64 (X / 18446744073709551616 % 18446744073709551616),.int .u64 (X % 18446744073709551616)]] w fun e w' =>
   e = .returned (.tuple #[J I (wrap64 (X / 4294967296)),.bool (decide (-9223372036854775808 <= X / 4294967296/\X / 4294967296 < 9223372036854775808))])/\Below w.heap.size w w':=by
 go_enter func123,ntmps123
 go_wp2
 go_returns
 refine ⟨Jrh ?_ ?_,by go_grown⟩
 ·rw [Jiq];unfold wrap64;omega
 ·rw [Jiq,Bool.eq_iff_iff,beq_iff_eq,decide_eq_true_eq];unfold wrap64;omega
theorem Jj9 (X Z:Int) (w:World) (h0:-170141183460469231731687303715884105728 < X) (h1:X < 170141183460469231731687303715884105728) (hZ:(0 <= X/\Z = X) \/ (X < 0/\Z = -X)) :
  Calls Tryz.prog 165 #[.agg #[.int .u64 (X / 18446744073709551616 % 18446744073709551616),.int .u64 (X % 18446744073709551616)]] w fun e w' =>
   e = .returned (.agg #[.int .u64 (Z / 18446744073709551616 % 18446744073709551616),.int .u64 (Z % 18446744073709551616)])/\Below w.heap.size w w':=by
 obtain ⟨h,hh⟩:∃ u,u = X / 18446744073709551616 % 18446744073709551616:=⟨_,rfl⟩
 obtain ⟨l,hl⟩:∃ u,u = X % 18446744073709551616:=⟨_,rfl⟩
 rcases hZ with ⟨g,rfl⟩ | ⟨g,hZ⟩
 ·rw [<- hl,<- hh]
  have hn:¬ wrap64 h < 0:=by unfold wrap64;omega
  clear hl hh
  go_enter func165,ntmps165
  go_wp2
  go_returns
  exact ⟨rfl,by go_grown⟩
 ·rw [<- hl,<- hh]
  have hn:wrap64 h < 0:=by unfold wrap64;omega
  by_cases gl:l = 0
  ·have r1:=fun w=>Jew 0 l 0 w (by omega) (by omega) (by omega) (by omega) (by omega) (by omega)
   have r2:=fun w=>Jew 0 h 0 w (by omega) (by omega) (by omega) (by omega) (by omega) (by omega)
   have e1:(0 - h - 0) % 18446744073709551616 = Z / 18446744073709551616 % 18446744073709551616:=by omega
   have e2:(0 - l - 0) % 18446744073709551616 = Z % 18446744073709551616:=by omega
   rw [if_neg (by omega)] at r1
   rw [e2] at r1
   rw [e1,if_pos (by omega)] at r2
   clear hl hh hZ e1 e2 gl
   go_enter func165,ntmps165
   go_wp2
   go_returns
   exact ⟨rfl,by go_grown⟩
  ·have r1:=fun w=>Jew 0 l 0 w (by omega) (by omega) (by omega) (by omega) (by omega) (by omega)
   have r2:=fun w=>Jew 0 h 1 w (by omega) (by omega) (by omega) (by omega) (by omega) (by omega)
   have e1:(0 - h - 1) % 18446744073709551616 = Z / 18446744073709551616 % 18446744073709551616:=by omega
   have e2:(0 - l - 0) % 18446744073709551616 = Z % 18446744073709551616:=by omega
   rw [if_pos (by omega)] at r1
   rw [e2] at r1
   rw [e1,if_pos (by omega)] at r2
   clear hl hh hZ e1 e2 gl
   go_enter func165,ntmps165
   go_wp2
   go_returns
   exact ⟨rfl,by go_grown⟩
theorem Jiv (hi lo y:Int) (w:World) (hh0:0 <= hi) (hh:hi < y) (hl0:0 <= lo) (hl:lo < 18446744073709551616) (hy:y < 4611686018427387904) :
  Calls Tryz.prog 166 #[.int .u64 hi,.int .u64 lo,.int .u64 y] w fun e w'=>e = .returned (.tuple #[.int .u64 ((hi * 18446744073709551616 + lo) / y),.int .u64 ((hi * 18446744073709551616 + lo) % y)])/\∃ n,w' = w.drewN n:=by
 rcases Int.lt_or_eq_of_le hh0 with h | h
 ·exact (Jrj hi lo y w (by omega) hh hl0 hl hy).mono fun e w' ⟨a,b⟩=>⟨a,0,by rw [b];rfl⟩
 ·subst h
  exact (Jqo lo y w hl0 hl (by omega) hy).mono fun e w' ⟨a,b⟩=>⟨by rw [a];simp,1,by rw [b];rfl⟩
end
end Go.Proofs.YteebbpioffdncaaGreat
