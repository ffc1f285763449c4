/- A right shape's core, as placed cores want it; lists of points, held against one another. -/
import Derived.Test.YtablgiflakncfaaGreatBBW13
import Derived.Test.YtablgiflakncfaaGreatBBW9
import Derived.Test.YtablgiflakncfaaGreatBBW1
import Derived.Test.YtablgiflakncfaaGreatBBW8
import Derived.Deep.RegionWith
set_option maxHeartbeats 1000000
set_option linter.unusedVariables false
namespace Go.Proofs.YtablgiflakncfaaGreat
section
open Go.RowKit Go.Shelf
structure TLD (k:Nat) (A:List Pt):Prop where
 one:∀ p ∈ A,p ≠ Pt.O/\p.short = p
 two:A.Pairwise fun p q=>p ≠ q/\(k = 1->p ≠ q.neg)
theorem gd_axes {s:Sh} (h:Good s):TLD 0 (axesP s):=by
 unfold axesP
 by_cases k3:s.kind = 3
 ·rw [if_pos k3];exact ⟨by decide,by decide⟩
 ·rw [if_neg k3]
  by_cases k4:s.kind = 4
  ·rw [if_pos k4]
   have hf:formP s = true:=by
    cases hf:formP s with
    | true=>rfl
    | false=>have:=h.ok;unfold checkP at this;rw [hf] at this;simp at this
   obtain ⟨_,_,m3,m4⟩:=may_parts (form_hull hf k4)
   have t:=sides_tidy m3 m4
   exact ⟨t.a0,t.a1.imp fun h=>⟨h,fun e=>by omega⟩⟩
  ·rw [if_neg k4];exact ⟨by simp,List.Pairwise.nil⟩
theorem gd_edges {s:Sh} (h:Good s):TLD 1 (edgesP s):=by
 unfold edgesP
 by_cases k2:s.kind = 2
 ·rw [if_pos k2];exact ⟨by decide,by decide⟩
 rw [if_neg k2]
 by_cases k3:s.kind = 3
 ·rw [if_pos k3];exact ⟨by decide,by decide⟩
 ·rw [if_neg k3]
  by_cases k4:s.kind = 4
  ·rw [if_pos k4]
   have hf:formP s = true:=by
    cases hf:formP s with
    | true=>rfl
    | false=>have:=h.ok;unfold checkP at this;rw [hf] at this;simp at this
   obtain ⟨_,_,m3,m4⟩:=may_parts (form_hull hf k4)
   have t:=sides_tidy m3 m4
   exact ⟨t.e0,t.e1.imp fun h=>⟨h.1,fun _=>h.2⟩⟩
  ·rw [if_neg k4];exact ⟨by simp,List.Pairwise.nil⟩
theorem gd_pts {s:Sh} (h:Good s):0 < (ptsP s).length:=by
 unfold ptsP
 by_cases k1:s.kind = 1
 ·rw [if_pos k1];decide
 rw [if_neg k1]
 by_cases k2:s.kind = 2
 ·rw [if_pos k2];simp
 rw [if_neg k2]
 by_cases k3:s.kind = 3
 ·rw [if_pos k3];simp [cornersP]
 ·rw [if_neg k3]
  have k4:s.kind = 4:=by have:=h.k;omega
  have hf:formP s = true:=by
   cases hf:formP s with
   | true=>rfl
   | false=>have:=h.ok;unfold checkP at this;rw [hf] at this;simp at this
  obtain ⟨m1,_⟩:=may_parts (form_hull hf k4)
  omega
theorem gd_in {s:Sh} (h:Good s):∀ p ∈ ptsP s,p.inB 65536 = true:=by
 have hx:=h.hx
 have hy:=h.hy
 have hz:=h.hz
 unfold ptsP
 by_cases k1:s.kind = 1
 ·rw [if_pos k1];decide
 rw [if_neg k1]
 by_cases k2:s.kind = 2
 ·rw [if_pos k2]
  intro p hp
  simp only [List.mem_cons,List.not_mem_nil,or_false] at hp
  rcases hp with rfl | rfl <;> (rw [Pt.inB_iff];dsimp only;omega)
 rw [if_neg k2]
 by_cases k3:s.kind = 3
 ·rw [if_pos k3]
  intro p hp
  simp only [cornersP,List.mem_cons,List.not_mem_nil,or_false] at hp
  rcases hp with rfl | rfl | rfl | rfl | rfl | rfl | rfl | rfl <;> (rw [Pt.inB_iff];dsimp only;omega)
 ·rw [if_neg k3]
  have k4:s.kind = 4:=by have:=h.k;omega
  have hf:formP s = true:=by
   cases hf:formP s with
   | true=>rfl
   | false=>have:=h.ok;unfold checkP at this;rw [hf] at this;simp at this
  obtain ⟨_,_,m3,_⟩:=may_parts (form_hull hf k4)
  exact m3
theorem tri_len (L:List Pt) (a b c:Pt) (s:List Pt × List Pt):(triP L a b c s).1.length <= s.1.length + 1/\(triP L a b c s).2.length <= s.2.length + 3:=by
 have hE:∀ (E:List Pt) (e:Pt),(withEdgeP E e).length <= E.length + 1:=fun E e=>by unfold withEdgeP;split <;> simp
 unfold triP
 dsimp only
 split
 ·omega
 ·refine ⟨?_,?_⟩
  ·have hA:∀ (A:List Pt) (e:Pt),(withAxisP A e).length <= A.length + 1:=fun A e=>by unfold withAxisP;split <;> simp
   exact hA _ _
  ·unfold withEdgesP
   simp only [List.foldl_cons,List.foldl_nil]
   have h1:=hE s.2 (b.sub a)
   have h2:=hE (withEdgeP s.2 (b.sub a)) (c.sub a)
   have h3:=hE (withEdgeP (withEdgeP s.2 (b.sub a)) (c.sub a)) (c.sub b)
   omega
theorem inner_len (L:List Pt) (a b:Pt):∀ (M:List Pt) (s:List Pt × List Pt),(innerP L a b M s).1.length <= s.1.length + M.length/\(innerP L a b M s).2.length <= s.2.length + 3 * M.length
 | [],s=>by simp [innerP]
 | c :: r,s=>by
  have h1:=inner_len L a b r (triP L a b c s)
  have h2:=tri_len L a b c s
  simp only [innerP,List.length_cons]
  omega
theorem mid_len (L:List Pt) (a:Pt):∀ (M:List Pt) (s:List Pt × List Pt),(midP L a M s).1.length <= s.1.length + M.length * M.length/\(midP L a M s).2.length <= s.2.length + 3 * (M.length * M.length)
 | [],s=>by simp [midP]
 | c :: r,s=>by
  have h1:=mid_len L a r (innerP L a c r s)
  have h2:=inner_len L a c r s
  simp only [midP,List.length_cons]
  have e:(r.length + 1) * (r.length + 1) = r.length * r.length + (r.length + r.length + 1):=by simp only [Nat.add_mul,Nat.mul_add,Nat.one_mul,Nat.mul_one];omega
  rw [e]
  generalize r.length * r.length = q at *
  omega
theorem outer_len (L:List Pt):∀ (M:List Pt) (s:List Pt × List Pt),M.length <= 12->(outerP L M s).1.length <= s.1.length + 144 * M.length/\(outerP L M s).2.length <= s.2.length + 432 * M.length
 | [],s,_=>by simp [outerP]
 | a :: r,s,h=>by
  simp only [List.length_cons] at h
  have h1:=outer_len L r (midP L a r s) (by omega)
  have h2:=mid_len L a r s
  have h3:r.length * r.length <= 12 * 12:=Nat.mul_le_mul (by omega) (by omega)
  simp only [outerP,List.length_cons]
  generalize r.length * r.length = q at *
  omega
theorem gd_alen {s:Sh} (h:Good s):(axesP s).length < 1099511627776/\(edgesP s).length < 1099511627776:=by
 have hs:s.kind = 4->(sidesP s.pts).1.length <= 1728/\(sidesP s.pts).2.length <= 5184:=fun k4=>by
  have hf:formP s = true:=by
   cases hf:formP s with
   | true=>rfl
   | false=>have:=h.ok;unfold checkP at this;rw [hf] at this;simp at this
  obtain ⟨_,m2,_⟩:=may_parts (form_hull hf k4)
  have h9:=outer_len s.pts s.pts ([],[]) (by omega)
  unfold sidesP
  simp only [List.length_nil,Nat.zero_add] at h9
  omega
 unfold axesP edgesP
 constructor
 ·split
  ·decide
  ·split
   ·have:=hs (by assumption);omega
   ·decide
 ·split
  ·decide
  ·split
   ·decide
   ·split
    ·have:=hs (by assumption);omega
    ·decide
theorem gd_len {s:Sh} (h:Good s):(ptsP s).length <= 12:=by
 unfold ptsP
 by_cases k1:s.kind = 1
 ·rw [if_pos k1];decide
 rw [if_neg k1]
 by_cases k2:s.kind = 2
 ·rw [if_pos k2];simp
 rw [if_neg k2]
 by_cases k3:s.kind = 3
 ·rw [if_pos k3];simp [cornersP]
 ·rw [if_neg k3]
  have k4:s.kind = 4:=by have:=h.k;omega
  have hf:formP s = true:=by
   cases hf:formP s with
   | true=>rfl
   | false=>have:=h.ok;unfold checkP at this;rw [hf] at this;simp at this
  obtain ⟨_,m2,_⟩:=may_parts (form_hull hf k4)
  omega
end
section
namespace Ref
def val (d:Nat->Int):Nat->Int
 | 0=>0
 | n + 1=>val d n + d n * 16777216 ^ n
def Digs (d:Nat->Int):Prop:=∀ j,j < 8->0 <= d j/\d j < 16777216
def put (d:Nat->Int) (k:Nat) (v:Int):Nat->Int:=fun j=>if j = k then v else d j
theorem put_same (d:Nat->Int) (k:Nat) (v:Int):put d k v k = v:=by simp [put]
theorem put_other (d:Nat->Int) {k j:Nat} (v:Int) (h:j ≠ k):put d k v j = d j:=by simp [put,h]
theorem pos (n:Nat):(0:Int) < 16777216 ^ n:=Int.pow_pos (by omega)
theorem val_ext {d e:Nat->Int}:∀ n,(∀ j,j < n->d j = e j)->val d n = val e n
 | 0,_=>rfl
 | n + 1,h=>by
  simp only [val]
  rw [val_ext n (fun j hj=>h j (by omega)),h n (by omega)]
theorem val_put_ge (d:Nat->Int) (k:Nat) (v:Int) (n:Nat) (h:n <= k):val (put d k v) n = val d n:=
 val_ext n fun j hj=>put_other d v (by omega)
theorem val_put (d:Nat->Int) (k:Nat) (v:Int):∀ n,k < n->val (put d k v) n = val d n + (v - d k) * 16777216 ^ k
 | 0,h=>by omega
 | n + 1,h=>by
  simp only [val]
  by_cases e:k = n
  ·subst e
   rw [val_put_ge d k v k (Nat.le_refl _),put_same,Int.sub_mul];omega
  ·rw [val_put d k v n (by omega),put_other d v (by omega:n ≠ k)];omega
theorem val_nonneg {d:Nat->Int}:∀ n,(∀ j,j < n->0 <= d j)->0 <= val d n
 | 0,_=>by simp [val]
 | n + 1,h=>by
  have a:=val_nonneg n (fun j hj=>h j (by omega))
  have b:=Int.mul_nonneg (h n (by omega)) (Int.le_of_lt (pos n))
  simp only [val];omega
theorem val_lt {d:Nat->Int}:∀ n,(∀ j,j < n->0 <= d j/\d j < 16777216)->val d n < 16777216 ^ n
 | 0,_=>by simp [val]
 | n + 1,h=>by
  have a:=val_lt n (fun j hj=>h j (by omega))
  have b:=Int.mul_le_mul_of_nonneg_right (by have:=h n (by omega);omega:d n <= 16777215) (Int.le_of_lt (pos n))
  simp only [val,Int.pow_succ];omega
theorem Digs.nonneg {d:Nat->Int} (h:Digs d):0 <= val d 8:=val_nonneg 8 fun j hj=>(h j hj).1
theorem Digs.lt {d:Nat->Int} (h:Digs d):val d 8 < 6277101735386680763835789423207666416102355444464034512896:=by
 have:=val_lt 8 h;simpa using this
theorem Digs.put {d:Nat->Int} (h:Digs d) (k:Nat) {v:Int} (hv:0 <= v/\v < 16777216):Digs (put d k v):=by
 intro j hj
 by_cases e:j = k
 ·subst e;rw [put_same];exact hv
 ·rw [put_other d v e];exact h j hj
theorem val_less {a b:Nat->Int} (i:Nat) (ha:∀ j,j < i->0 <= a j/\a j < 16777216) (hb:∀ j,j < i->0 <= b j) (h:a i < b i):∀ n,i < n->(∀ j,i < j->j < n->a j = b j)->val a n < val b n
 | 0,hn,_=>by omega
 | n + 1,hn,he=>by
  simp only [val]
  by_cases e:i = n
  ·subst e
   have h1:=val_lt i ha
   have h2:=val_nonneg i hb
   have h3:=Int.mul_le_mul_of_nonneg_right (by omega:a i + 1 <= b i) (Int.le_of_lt (pos i))
   rw [Int.add_mul] at h3;omega
  ·have:=val_less i ha hb h n (by omega) (fun j h1 h2=>he j h1 (by omega))
   rw [he n (by omega) (by omega)];omega
theorem add_step {V A B c x y P:Int} (h:V + c * P = A + B):V + (x + y + c) % 16777216 * P + (x + y + c) / 16777216 * (P * 16777216) = A + x * P + (B + y * P):=by
 have e:=Int.emod_add_mul_ediv (x + y + c) 16777216
 obtain ⟨r,hr⟩:∃ r,r = (x + y + c) % 16777216:=⟨_,rfl⟩
 obtain ⟨q,hq⟩:∃ q,q = (x + y + c) / 16777216:=⟨_,rfl⟩
 rw [<- hr,<- hq] at e ⊢
 have:(r + 16777216 * q) * P = (x + y + c) * P:=by rw [e]
 grind
theorem mul_step {V c o x y P R:Int} (h:V + c * P = R):V + ((o + x * y + c) % 16777216 - o) * P + (o + x * y + c) / 16777216 * (P * 16777216) = R + x * y * P:=by
 have e:=Int.emod_add_mul_ediv (o + x * y + c) 16777216
 obtain ⟨r,hr⟩:∃ r,r = (o + x * y + c) % 16777216:=⟨_,rfl⟩
 obtain ⟨q,hq⟩:∃ q,q = (o + x * y + c) / 16777216:=⟨_,rfl⟩
 rw [<- hr,<- hq] at e ⊢
 have:(r + 16777216 * q) * P = (o + x * y + c) * P:=by rw [e]
 grind
def dig (u:Int) (j:Nat):Int:=u / 16777216 ^ j % 16777216
theorem dig_step (u:Int) (k:Nat):u / 16777216 ^ k / 16777216 = u / 16777216 ^ (k + 1):=by
 rw [Int.pow_succ,Int.ediv_ediv_of_nonneg (Int.le_of_lt (pos k))]
theorem val_dig (u:Int):∀ n,val (dig u) n = u % 16777216 ^ n
 | 0=>by simp [val,Int.emod_one]
 | n + 1=>by
  simp only [val,val_dig u n,dig]
  rw [Int.pow_succ]
  have h1:=Int.emod_add_mul_ediv u (16777216 ^ n)
  have h2:=Int.emod_add_mul_ediv (u / 16777216 ^ n) 16777216
  have hp:=pos n
  have b1:=Int.emod_nonneg u (by omega:(16777216:Int) ^ n ≠ 0)
  have b2:=Int.emod_lt_of_pos u hp
  have b3:=Int.emod_nonneg (u / 16777216 ^ n) (by omega:(16777216:Int) ≠ 0)
  have b4:=Int.emod_lt_of_pos (u / 16777216 ^ n) (by omega:(0:Int) < 16777216)
  generalize (16777216:Int) ^ n = P at *
  generalize u % P = r at *
  generalize u / P = q at *
  generalize q % 16777216 = s at *
  generalize q / 16777216 = t at *
  have hs:s * P <= 16777215 * P:=Int.mul_le_mul_of_nonneg_right (by omega) (by omega)
  have hs0:0 <= s * P:=Int.mul_nonneg b3 (by omega)
  have e:u = (P * 16777216) * t + (r + s * P):=by rw [<- h1,<- h2];grind
  rw [e,Int.mul_add_emod_self_left,Int.emod_eq_of_lt (by omega) (by omega)]
def sv (s:Bool) (d:Nat->Int):Int:=if s then -val d 8 else val d 8
end Ref
end
section
open Go.RowKit Ref
@[reducible] def wv (s:Bool) (d:Nat->Int):Value:=.agg #[.bool s,.int .i64 (d 0),.int .i64 (d 1),.int .i64 (d 2),.int .i64 (d 3),.int .i64 (d 4),.int .i64 (d 5),.int .i64 (d 6),.int .i64 (d 7)]
structure RLies (w:World) (b:Nat) (s:Bool) (d:Nat->Int):Prop where
 neg:w.cell? ⟨b,0,none⟩ = some (.bool s)
 dig:∀ k,k < 8->w.cell? ⟨b,1 + k,none⟩ = some (.int .i64 (d k))
 free:∀ k,k < 9->w.frozen? ⟨b,k,none⟩ = false
theorem RLies.lt {w:World} {b:Nat} {s:Bool} {d:Nat->Int} (h:RLies w b s d):b < w.heap.size:=World.block_lt_of_cell? _ _ h.neg
theorem lies_new (w:World) (s:Bool) (d:Nat->Int) (t:TypeId) :
  RLies (w.alloc (.cells #[.bool s,.int .i64 (d 0),.int .i64 (d 1),.int .i64 (d 2),.int .i64 (d 3),.int .i64 (d 4),.int .i64 (d 5),.int .i64 (d 6),.int .i64 (d 7)] t)) w.heap.size s d:=by
 refine ⟨by simp,fun k hk=>?_,fun k hk=>by simp⟩
 match k,hk with
 | 0,_=>simp
 | 1,_=>simp
 | 2,_=>simp
 | 3,_=>simp
 | 4,_=>simp
 | 5,_=>simp
 | 6,_=>simp
 | 7,_=>simp
theorem RLies.below {w w':World} {b B:Nat} {s:Bool} {d:Nat->Int} (h:RLies w b s d) (hb:Below B w w') (hB:b < B):RLies w' b s d:=
 ⟨(hb.cell hB).trans h.neg,fun k hk=>(hb.cell hB).trans (h.dig k hk),fun k hk=>(hb.frozen hB).trans (h.free k hk)⟩
theorem RLies.alloc {w:World} {b:Nat} {s:Bool} {d:Nat->Int} (h:RLies w b s d) (o:Obj):RLies (w.alloc o) b s d:=
 h.below (new_after w o) h.lt
theorem RLies.other {w:World} {b:Nat} {s:Bool} {d:Nat->Int} (h:RLies w b s d) {a:Addr} (hne:b ≠ a.block) (v:Value):RLies (w.setCell a v) b s d:=
 ⟨(World.cell?_of_block (w:=w) (Below.heap_setCell _ _ _ _ hne)).trans h.neg,fun k hk=>(World.cell?_of_block (w:=w) (Below.heap_setCell _ _ _ _ hne)).trans (h.dig k hk),
  fun k hk=>(World.frozen?_of_block (w:=w) (Below.heap_setCell _ _ _ _ hne)).trans (h.free k hk)⟩
theorem RLies.put {w:World} {b:Nat} {s:Bool} {d:Nat->Int} (h:RLies w b s d) {k:Nat} (hk:k < 8) (v:Int):RLies (w.setCell ⟨b,1 + k,none⟩ (.int .i64 v)) b s (put d k v):=by
 have hd:=h.dig k hk
 refine ⟨?_,fun j hj=>?_,fun j hj=>?_⟩
 ·rw [<- h.neg];simp [go_sem]
 ·have hj':=h.dig j hj
  by_cases e:j = k
  ·subst e;simp [go_sem,hd,put_same]
  ·rw [put_other d v e,<- hj'];simp [go_sem]
 ·rw [<- h.free j hj];simp [go_sem]
theorem RLies.drew {w:World} {b:Nat} {s:Bool} {d:Nat->Int} (h:RLies w b s d):RLies w.drew b s d:=⟨h.neg,h.dig,h.free⟩
theorem RLies.cells {w:World} {b:Nat} {s:Bool} {d:Nat->Int} (h:RLies w b s d):w.cell? ⟨b,0,none⟩ = some (.bool s)/\w.cell? ⟨b,1,none⟩ = some (.int .i64 (d 0))/\w.cell? ⟨b,2,none⟩ = some (.int .i64 (d 1))/\w.cell? ⟨b,3,none⟩ = some (.int .i64 (d 2))/\w.cell? ⟨b,4,none⟩ = some (.int .i64 (d 3))/\w.cell? ⟨b,5,none⟩ = some (.int .i64 (d 4))/\w.cell? ⟨b,6,none⟩ = some (.int .i64 (d 5))/\w.cell? ⟨b,7,none⟩ = some (.int .i64 (d 6))/\w.cell? ⟨b,8,none⟩ = some (.int .i64 (d 7)):=
 ⟨h.neg,h.dig 0 (by omega),h.dig 1 (by omega),h.dig 2 (by omega),h.dig 3 (by omega),h.dig 4 (by omega),h.dig 5 (by omega),h.dig 6 (by omega),h.dig 7 (by omega)⟩
theorem RLies.frees {w:World} {b:Nat} {s:Bool} {d:Nat->Int} (h:RLies w b s d):w.frozen? ⟨b,0,none⟩ = false/\w.frozen? ⟨b,1,none⟩ = false/\w.frozen? ⟨b,2,none⟩ = false/\w.frozen? ⟨b,3,none⟩ = false/\w.frozen? ⟨b,4,none⟩ = false/\w.frozen? ⟨b,5,none⟩ = false/\w.frozen? ⟨b,6,none⟩ = false/\w.frozen? ⟨b,7,none⟩ = false/\w.frozen? ⟨b,8,none⟩ = false:=
 ⟨h.free 0 (by omega),h.free 1 (by omega),h.free 2 (by omega),h.free 3 (by omega),h.free 4 (by omega),h.free 5 (by omega),h.free 6 (by omega),h.free 7 (by omega),h.free 8 (by omega)⟩
theorem below_nine {w W:World} {b:Nat} {v0 v1 v2 v3 v4 v5 v6 v7 v8:Value} (h:Below w.heap.size w W) (hb:w.heap.size <= b) :
  Below w.heap.size w (((((((((W.setCell ⟨b,0,none⟩ v0).setCell ⟨b,1,none⟩ v1).setCell ⟨b,2,none⟩ v2).setCell ⟨b,3,none⟩ v3).setCell ⟨b,4,none⟩ v4).setCell ⟨b,5,none⟩ v5).setCell ⟨b,6,none⟩ v6).setCell ⟨b,7,none⟩ v7).setCell ⟨b,8,none⟩ v8):=
 ((((((((h.setCell hb _).setCell hb _).setCell hb _).setCell hb _).setCell hb _).setCell hb _).setCell hb _).setCell hb _).setCell hb _
theorem of_end {n U:Int} {s:Bool} (h1:-9223372036854775808 <= n) (h2:n < 9223372036854775808) (hs:s = decide (n < 0)) (hU:U = n.natAbs) (d:Nat->Int) (hd:∀ j,j < 8->d j = dig U j):Digs d/\sv s d = n:=by
 refine ⟨fun j hj=>?_,?_⟩
 ·rw [hd j hj];exact ⟨Int.emod_nonneg _ (by omega),Int.emod_lt_of_pos _ (by omega)⟩
 ·have h:=val_ext (e:=dig U) 8 hd
  rw [val_dig] at h
  unfold sv
  rw [h,hs,hU]
  by_cases g:n < 0
  ·simp [g];omega
  ·simp [g];omega
theorem of_any (n:Int) (w:World) (h1:-9223372036854775808 <= n) (h2:n < 9223372036854775808) :
  Calls Tryz.prog 54 #[.int .i64 n] w fun e w'=>∃ s d,e = .returned (wv s d)/\Hid (Digs d/\sv s d = n)/\Hid (Below w.heap.size w w'):=by
 obtain ⟨s,hs⟩:∃ s,s = decide (n < 0):=⟨_,rfl⟩
 obtain ⟨U,hU⟩:∃ U:Int,U = n.natAbs:=⟨_,rfl⟩
 have HE:Hid (∀ d,(∀ j,j < 8->d j = dig U j)->Digs d/\sv s d = n):=of_end h1 h2 hs hU
 by_cases hn:n < 0
 ·obtain rfl:s = true:=by rw [hs];simp [hn]
  clear hs
  obtain rfl:n = -U:=by omega
  clear hU
  go_enter Tryz.func54,Tryz.ntmps54
  go_wp2
  go_loopw [4,5] (fun u i wr=>∃ (k:Nat) (d:Nat->Int),k <= 8/\i = .int .i64 k/\u = .int .u64 (U / 16777216 ^ k)/\Hid (∀ j,j < k->d j = dig U j)/\Hid (RLies wr (w.heap.size + 1) true d)/\Hid (RLies wr w.heap.size false (fun _=>0))/\Hid (Below w.heap.size w wr)) (fun _ i _=>8 - (intOf i).toNat)
  case atStart=>exact ⟨0,fun _=>0,Nat.zero_le _,rfl,by simp [IntKind.wrap,IntKind.bits,IntKind.signed];omega,fun j hj=>by omega,by show RLies _ _ _ _;have:=lies_new (w.alloc (.cells #[.bool false,.int .i64 0,.int .i64 0,.int .i64 0,.int .i64 0,.int .i64 0,.int .i64 0,.int .i64 0,.int .i64 0] 94)) true (fun _=>0) 94;simpa only [World.size_alloc] using this,RLies.alloc (lies_new w false (fun _=>0) 94) _,(new_after w _).alloc (by simp) _⟩
  case round =>
   obtain ⟨k,d,hk,rfl,rfl,HD,HL,HR,HB⟩:=hrel
   by_cases hlt:k < 8
   ·have hcell:=HL.out.dig k hlt
    have hfree:=HL.out.free (1 + k) (by omega)
    have i0:(0:Int) <= (k:Int):=by omega
    have i1:(k:Int) < 8:=by omega
    have HS:Hid _:=dig_step U k
    have HP:Hid (put d k (U / 16777216 ^ k % 16777216) k = dig U k):=put_same _ _ _
    have u0:0 <= U / 16777216 ^ k:=Int.ediv_nonneg (by omega) (Int.le_of_lt (pos k))
    have u1:U / 16777216 ^ k < 18446744073709551616:=Int.lt_of_le_of_lt (Int.ediv_le_self _ (by omega)) (by omega)
    obtain ⟨x,hx⟩:∃ x,x = U / 16777216 ^ k:=⟨_,rfl⟩
    rw [<- hx] at HS HP u0 u1
    rw [<- hx]
    have HX:Hid _:=hx
    clear hx
    go_wp2
    go_roundw
    case rel =>
     refine ⟨k + 1,put d k (x % 16777216),by omega,by go_num,by rw [<- HS.out],fun j hj=>?_,?_,?_,?_⟩
     ·by_cases e:j = k
      ·subst e;exact HP.out
      ·rw [put_other _ _ e];exact HD.out j (by omega)
     ·exact HL.out.put hlt _
     ·exact HR.out.other (by simp) _
     ·exact HB.out.setCell (by simp) _
    case measure=>simp [intOf];omega
   ·have hk8:8 <= (k:Int):=by omega
    obtain ⟨c0,c1,c2,c3,c4,c5,c6,c7,c8⟩:=HL.out.cells
    obtain ⟨r0,r1,r2,r3,r4,r5,r6,r7,r8⟩:=HR.out.cells
    obtain ⟨f0,f1,f2,f3,f4,f5,f6,f7,f8⟩:=HR.out.frees
    go_wp2
    try simp only [Exit.inBlock,Exit.then]
    refine bodyPost_ret (by simp [results,Tryz.results54,go_sem,r0,r1,r2,r3,r4,r5,r6,r7,r8];try rfl) rfl ?_
    refine ⟨_,d,rfl,HE.out d (fun j hj=>HD.out j (by omega)),?_⟩
    exact below_nine HB.out (Nat.le_refl _)
 ·obtain rfl:s = false:=by rw [hs];simp [hn]
  clear hs
  obtain rfl:U = n:=by omega
  clear hU
  go_enter Tryz.func54,Tryz.ntmps54
  go_wp2
  go_loopw [4,5] (fun u i wr=>∃ (k:Nat) (d:Nat->Int),k <= 8/\i = .int .i64 k/\u = .int .u64 (U / 16777216 ^ k)/\Hid (∀ j,j < k->d j = dig U j)/\Hid (RLies wr (w.heap.size + 1) false d)/\Hid (RLies wr w.heap.size false (fun _=>0))/\Hid (Below w.heap.size w wr)) (fun _ i _=>8 - (intOf i).toNat)
  case atStart=>exact ⟨0,fun _=>0,Nat.zero_le _,rfl,by simp,fun j hj=>by omega,by show RLies _ _ _ _;have:=lies_new (w.alloc (.cells #[.bool false,.int .i64 0,.int .i64 0,.int .i64 0,.int .i64 0,.int .i64 0,.int .i64 0,.int .i64 0,.int .i64 0] 94)) false (fun _=>0) 94;simpa only [World.size_alloc] using this,RLies.alloc (lies_new w false (fun _=>0) 94) _,(new_after w _).alloc (by simp) _⟩
  case round =>
   obtain ⟨k,d,hk,rfl,rfl,HD,HL,HR,HB⟩:=hrel
   by_cases hlt:k < 8
   ·have hcell:=HL.out.dig k hlt
    have hfree:=HL.out.free (1 + k) (by omega)
    have i0:(0:Int) <= (k:Int):=by omega
    have i1:(k:Int) < 8:=by omega
    have HS:Hid _:=dig_step U k
    have HP:Hid (put d k (U / 16777216 ^ k % 16777216) k = dig U k):=put_same _ _ _
    have u0:0 <= U / 16777216 ^ k:=Int.ediv_nonneg (by omega) (Int.le_of_lt (pos k))
    have u1:U / 16777216 ^ k < 18446744073709551616:=Int.lt_of_le_of_lt (Int.ediv_le_self _ (by omega)) (by omega)
    obtain ⟨x,hx⟩:∃ x,x = U / 16777216 ^ k:=⟨_,rfl⟩
    rw [<- hx] at HS HP u0 u1
    rw [<- hx]
    have HX:Hid _:=hx
    clear hx
    go_wp2
    go_roundw
    case rel =>
     refine ⟨k + 1,put d k (x % 16777216),by omega,by go_num,by rw [<- HS.out],fun j hj=>?_,?_,?_,?_⟩
     ·by_cases e:j = k
      ·subst e;exact HP.out
      ·rw [put_other _ _ e];exact HD.out j (by omega)
     ·exact HL.out.put hlt _
     ·exact HR.out.other (by simp) _
     ·exact HB.out.setCell (by simp) _
    case measure=>simp [intOf];omega
   ·have hk8:8 <= (k:Int):=by omega
    obtain ⟨c0,c1,c2,c3,c4,c5,c6,c7,c8⟩:=HL.out.cells
    obtain ⟨r0,r1,r2,r3,r4,r5,r6,r7,r8⟩:=HR.out.cells
    obtain ⟨f0,f1,f2,f3,f4,f5,f6,f7,f8⟩:=HR.out.frees
    go_wp2
    try simp only [Exit.inBlock,Exit.then]
    refine bodyPost_ret (by simp [results,Tryz.results54,go_sem,r0,r1,r2,r3,r4,r5,r6,r7,r8];try rfl) rfl ?_
    refine ⟨_,d,rfl,HE.out d (fun j hj=>HD.out j (by omega)),?_⟩
    exact below_nine HB.out (Nat.le_refl _)
end
section
open Go.RowKit Ref
theorem size_same {a b:Nat->Int} (h:∀ j,0 <= j->j < 8->a j = b j):val a 8 = val b 8:=val_ext 8 fun j hj=>h j (Nat.zero_le _) hj
theorem size_less {a b:Nat->Int} {m:Nat} (ha:Digs a) (hb:Digs b) (hm:m < 8) (h:∀ j,m + 1 <= j->j < 8->a j = b j) (hl:a m < b m):val a 8 < val b 8:=
 val_less m (fun j hj=>ha j (by omega)) (fun j hj=>(hb j (by omega)).1) hl 8 hm (fun j h1 h2=>h j h1 h2)
theorem sizes_any (s t:Bool) (a b:Nat->Int) (w:World) (ha:Digs a) (hb:Digs b) :
  Calls Tryz.prog 149 #[wv s a,wv t b] w fun e w'=>∃ c,e = .returned (.int .i64 c)/\Hid ((c = -1/\val a 8 < val b 8) \/ (c = 0/\val a 8 = val b 8) \/ (c = 1/\val b 8 < val a 8))/\Hid (Below w.heap.size w w'):=by
 have HA:Hid _:=ha
 have HC:Hid _:=hb
 clear ha hb
 go_enter Tryz.func149,Tryz.ntmps149
 go_wp2
 go_loopw [5] (fun i wr=>∃ (k:Nat),k <= 8/\i = .int .i64 ((k:Int) - 1)/\Hid (∀ j,k <= j->j < 8->a j = b j)/\Hid (RLies wr w.heap.size s a)/\Hid (RLies wr (w.heap.size + 1) t b)/\Hid (Below w.heap.size w wr)) (fun i _=>(intOf i + 1).toNat)
 case atStart=>exact ⟨8,Nat.le_refl _,rfl,fun j h1 h2=>by omega,RLies.alloc (lies_new w s a 94) _,by show RLies _ _ _ _;have:=lies_new (w.alloc (.cells #[.bool s,.int .i64 (a 0),.int .i64 (a 1),.int .i64 (a 2),.int .i64 (a 3),.int .i64 (a 4),.int .i64 (a 5),.int .i64 (a 6),.int .i64 (a 7)] 94)) t b 94;simpa only [World.size_alloc] using this,(new_after w _).alloc (by simp) _⟩
 case round =>
  obtain ⟨k,hk,rfl,HD,HL,HR,HB⟩:=hrel
  match k,hk,HD with
  | 0,_,HD =>
   go_wp2
   go_ret
   exact ⟨0,rfl,Or.inr (Or.inl ⟨rfl,size_same HD.out⟩),HB.out⟩
  | m + 1,hm,HD =>
   have e:((m + 1:Nat):Int) - 1 = (m:Int):=by omega
   rw [e]
   have i0:(0:Int) <= (m:Int):=by omega
   have i1:(m:Int) < 8:=by omega
   have c0:=HL.out.dig m (by omega)
   have c1:=HR.out.dig m (by omega)
   have HX:Hid _:=HD
   clear HD e
   rcases Int.lt_trichotomy (a m) (b m) with g | g | g
   ·have HG:Hid _:=size_less HA.out HC.out (by omega) HX.out g
    go_wp2
    go_region
    all_goals go_wp2
    all_goals go_ret
    all_goals exact ⟨-1,rfl,Or.inl ⟨rfl,HG.out⟩,HB.out.drew⟩
   ·have HG:Hid _:=g
    rw [<- g] at c1
    clear g
    go_wp2
    go_region
    all_goals go_wp2
    all_goals go_region
    all_goals go_wp2
    all_goals go_roundw
    all_goals try (case rel=>exact ⟨m,by omega,by go_num,fun j h1 h2=>by by_cases e:j = m;(subst e;exact HG.out);exact HX.out j (by omega) h2,HL.out.drew.drew,HR.out.drew.drew,HB.out.drew.drew⟩)
    all_goals try (case measure=>show (((m:Int) - 1) + 1).toNat < ((m:Int) + 1).toNat;omega)
   ·have HG:Hid _:=size_less HC.out HA.out (by omega) (fun j h1 h2=>(HX.out j h1 h2).symm) g
    go_wp2
    go_region
    all_goals go_wp2
    all_goals go_region
    all_goals go_wp2
    all_goals go_ret
    all_goals exact ⟨1,rfl,Or.inr (Or.inr ⟨rfl,HG.out⟩),HB.out.drew.drew⟩
theorem sv_zero {s:Bool} {d:Nat->Int} (h:val d 8 = 0):sv s d = 0:=by unfold sv;cases s <;> simp [h]
theorem sign_any (s:Bool) (a:Nat->Int) (w:World) (ha:Digs a) :
  Calls Tryz.prog 150 #[wv s a] w fun e w'=>∃ c,e = .returned (.int .i64 c)/\Hid (-1 <= c/\c <= 1/\(c < 0 ↔ sv s a < 0))/\Hid (Below w.heap.size w w'):=by
 have HC:Hid _:=fun w=>sizes_any s false a (fun _=>0) w ha (fun j _=>by simp)
 have hz:val (fun _=>0) 8 = 0:=by simp [val]
 have HZ:Hid _:=hz
 have HA:Hid _:=ha.nonneg
 clear ha hz
 go_enter Tryz.func150,Tryz.ntmps150
 go_wp2_with (fail)
 refine (HC.out _).mono ?_
 rintro e w' ⟨c,rfl,S,B⟩
 have HB:Hid _:=below_step (w:=w) ((new_after w _).alloc (by simp) _) B.out
 rw [HZ.out] at S
 have hcell:w'.cell? ⟨w.heap.size,0,none⟩ = some (.bool s):=cell_after B.out (by simp)
 clear B HC HZ
 rcases S.out with ⟨rfl,h⟩ | ⟨rfl,h⟩ | ⟨rfl,h⟩
 ·exact absurd h (by have:=HA.out;omega)
 ·have HH:Hid _:=sv_zero (s:=s) h
  clear h
  go_wp2
  go_ret
  exact ⟨0,rfl,⟨by omega,by omega,by have:=HH.out;omega⟩,HB.out⟩
 ·cases s
  ·go_wp2
   go_ret
   exact ⟨1,rfl,⟨by omega,by omega,by unfold sv;simp;omega⟩,HB.out⟩
  ·go_wp2
   go_ret
   exact ⟨-1,rfl,⟨by omega,by omega,by unfold sv;simp;omega⟩,HB.out⟩
end
section
open Go.RowKit Ref
theorem lies_nine {W:World} {b:Nat} {s₀ s:Bool} {d₀ d:Nat->Int} (h:RLies W b s₀ d₀):RLies (((((((((W.setCell ⟨b,0,none⟩ (.bool s)).setCell ⟨b,1,none⟩ (.int .i64 (d 0))).setCell ⟨b,2,none⟩ (.int .i64 (d 1))).setCell ⟨b,3,none⟩ (.int .i64 (d 2))).setCell ⟨b,4,none⟩ (.int .i64 (d 3))).setCell ⟨b,5,none⟩ (.int .i64 (d 4))).setCell ⟨b,6,none⟩ (.int .i64 (d 5))).setCell ⟨b,7,none⟩ (.int .i64 (d 6))).setCell ⟨b,8,none⟩ (.int .i64 (d 7))) b s d:=by
 obtain ⟨c0,c1,c2,c3,c4,c5,c6,c7,c8⟩:=h.cells
 refine ⟨by simp [go_sem,c0],fun k hk=>?_,fun k hk=>by rw [<- h.free k hk];simp [go_sem]⟩
 match k,hk with
 | 0,_=>simp [go_sem,c1]
 | 1,_=>simp [go_sem,c2]
 | 2,_=>simp [go_sem,c3]
 | 3,_=>simp [go_sem,c4]
 | 4,_=>simp [go_sem,c5]
 | 5,_=>simp [go_sem,c6]
 | 6,_=>simp [go_sem,c7]
 | 7,_=>simp [go_sem,c8]
theorem RLies.nine {W:World} {b e:Nat} {s t:Bool} {d x:Nat->Int} (h:RLies W e t x) (hne:e ≠ b):RLies (((((((((W.setCell ⟨b,0,none⟩ (.bool s)).setCell ⟨b,1,none⟩ (.int .i64 (d 0))).setCell ⟨b,2,none⟩ (.int .i64 (d 1))).setCell ⟨b,3,none⟩ (.int .i64 (d 2))).setCell ⟨b,4,none⟩ (.int .i64 (d 3))).setCell ⟨b,5,none⟩ (.int .i64 (d 4))).setCell ⟨b,6,none⟩ (.int .i64 (d 5))).setCell ⟨b,7,none⟩ (.int .i64 (d 6))).setCell ⟨b,8,none⟩ (.int .i64 (d 7))) e t x:=
 ((((((((h.other hne _).other hne _).other hne _).other hne _).other hne _).other hne _).other hne _).other hne _).other hne _
theorem RLies.otherAt {W:World} {b:Nat} {s:Bool} {d:Nat->Int} (h:RLies W b s d) {e off:Nat} (hne:b ≠ e) (v:Value):RLies (W.setCell ⟨e,off,none⟩ v) b s d:=h.other hne v
theorem setAt {H:Nat} {w W:World} (h:Below H w W) {e off:Nat} (he:H <= e) (v:Value):Below H w (W.setCell ⟨e,off,none⟩ v):=h.setCell he v
theorem sum_next {a b d:Nat->Int} {k:Nat} {c n:Int} (ha:Digs a) (hb:Digs b) (hd:Digs d) (hk:k < 8) (hc:0 <= c/\c <= 1) (h:val d k + c * 16777216 ^ k = val a k + val b k) (hn:n = a k + b k + c) :
  Digs (put d k (n % 16777216))/\0 <= n / 16777216/\n / 16777216 <= 1/\val (put d k (n % 16777216)) (k + 1) + n / 16777216 * 16777216 ^ (k + 1) = val a (k + 1) + val b (k + 1):=by
 have h1:=ha k hk
 have h2:=hb k hk
 refine ⟨hd.put k ⟨Int.emod_nonneg _ (by omega),Int.emod_lt_of_pos _ (by omega)⟩,by omega,by omega,?_⟩
 simp only [val]
 rw [val_put_ge _ _ _ _ (Nat.le_refl _),put_same,Int.pow_succ,hn]
 exact add_step h
theorem sum_done {a b d:Nat->Int} {s:Bool} {c:Int} (hd:Digs d) (hc:0 <= c) (h:val d 8 + c * 16777216 ^ 8 = val a 8 + val b 8) (hfit:(sv s a + sv s b).natAbs < 6277101735386680763835789423207666416102355444464034512896):sv s d = sv s a + sv s b:=by
 have h0:=hd.nonneg
 have h1:(16777216:Int) ^ 8 = 6277101735386680763835789423207666416102355444464034512896:=by decide
 rw [h1] at h
 have e:(sv s a + sv s b).natAbs = (val a 8 + val b 8).natAbs:=by unfold sv;cases s <;> simp;omega
 rw [e] at hfit
 have:c = 0:=by omega
 subst this
 unfold sv;cases s <;> simp <;> omega
theorem dif_next {a b d:Nat->Int} {k:Nat} {c n c':Int} (ha:Digs a) (hb:Digs b) (hd:Digs d) (hk:k < 8) (hc:0 <= c/\c <= 1) (h:val d k - c * 16777216 ^ k = val a k - val b k)
  (hn:(a k - b k - c < 0/\n = a k - b k - c + 16777216/\c' = 1) \/ (0 <= a k - b k - c/\n = a k - b k - c/\c' = 0)) :
  Digs (put d k n)/\0 <= c'/\c' <= 1/\val (put d k n) (k + 1) - c' * 16777216 ^ (k + 1) = val a (k + 1) - val b (k + 1):=by
 have h1:=ha k hk
 have h2:=hb k hk
 refine ⟨hd.put k (by omega),by omega,by omega,?_⟩
 simp only [val]
 rw [val_put_ge _ _ _ _ (Nat.le_refl _),put_same,Int.pow_succ]
 generalize (16777216:Int) ^ k = X at *
 rcases hn with ⟨_,rfl,rfl⟩ | ⟨_,rfl,rfl⟩ <;> grind
theorem dif_done {a b d:Nat->Int} {c:Int} (hd:Digs d) (hc:0 <= c) (h:val d 8 - c * 16777216 ^ 8 = val a 8 - val b 8) (hle:val b 8 <= val a 8):val d 8 = val a 8 - val b 8:=by
 have h0:=hd.lt
 have h1:(16777216:Int) ^ 8 = 6277101735386680763835789423207666416102355444464034512896:=by decide
 rw [h1] at h
 have:c = 0:=by omega
 subst this
 omega
theorem plus_same (s:Bool) (a b:Nat->Int) (w:World) (ha:Digs a) (hb:Digs b) (hfit:(sv s a + sv s b).natAbs < 6277101735386680763835789423207666416102355444464034512896) :
  Calls Tryz.prog 147 #[wv s a,wv s b] w fun e w'=>∃ u d,e = .returned (wv u d)/\Hid (Digs d/\sv u d = sv s a + sv s b)/\Hid (Below w.heap.size w w'):=by
 have HA:Hid _:=ha
 have HC:Hid _:=hb
 have HF:Hid _:=hfit
 clear ha hb hfit
 go_enter Tryz.func147,Tryz.ntmps147
 go_wp2
 go_loopw [5,7] (fun cc i wr=>∃ (k:Nat) (d:Nat->Int) (c:Int),k <= 8/\i = .int .i64 k/\cc = .int .i64 c/\0 <= c/\c <= 1/\Hid (Digs d/\val d k + c * 16777216 ^ k = val a k + val b k)/\Hid (RLies wr w.heap.size s a)/\Hid (RLies wr (w.heap.size + 1) s b)/\Hid (RLies wr (w.heap.size + 1 + 1) false (fun _=>0))/\Hid (RLies wr (w.heap.size + 1 + 1 + 1) s d)/\Hid (Below w.heap.size w wr)) (fun _ i _=>8 - (intOf i).toNat)
 case atStart =>
  exact ⟨0,a,0,Nat.zero_le _,rfl,rfl,by omega,by omega,⟨HA.out,by simp [val]⟩,(RLies.alloc (RLies.alloc (RLies.alloc (by show RLies _ _ _ _;have:=lies_new w s a 94;simpa only [World.size_alloc] using this) _) _) _),(RLies.alloc (RLies.alloc (by show RLies _ _ _ _;have:=lies_new (w.alloc (.cells #[.bool s,.int .i64 (a 0),.int .i64 (a 1),.int .i64 (a 2),.int .i64 (a 3),.int .i64 (a 4),.int .i64 (a 5),.int .i64 (a 6),.int .i64 (a 7)] 94)) s b 94;simpa only [World.size_alloc] using this) _) _),(RLies.alloc (by show RLies _ _ _ _;have:=lies_new ((w.alloc (.cells #[.bool s,.int .i64 (a 0),.int .i64 (a 1),.int .i64 (a 2),.int .i64 (a 3),.int .i64 (a 4),.int .i64 (a 5),.int .i64 (a 6),.int .i64 (a 7)] 94)).alloc (.cells #[.bool s,.int .i64 (b 0),.int .i64 (b 1),.int .i64 (b 2),.int .i64 (b 3),.int .i64 (b 4),.int .i64 (b 5),.int .i64 (b 6),.int .i64 (b 7)] 94)) false (fun _=>0) 94;simpa only [World.size_alloc] using this) _),(by show RLies _ _ _ _;have:=lies_new (((w.alloc (.cells #[.bool s,.int .i64 (a 0),.int .i64 (a 1),.int .i64 (a 2),.int .i64 (a 3),.int .i64 (a 4),.int .i64 (a 5),.int .i64 (a 6),.int .i64 (a 7)] 94)).alloc (.cells #[.bool s,.int .i64 (b 0),.int .i64 (b 1),.int .i64 (b 2),.int .i64 (b 3),.int .i64 (b 4),.int .i64 (b 5),.int .i64 (b 6),.int .i64 (b 7)] 94)).alloc (.cells #[.bool false,.int .i64 0,.int .i64 0,.int .i64 0,.int .i64 0,.int .i64 0,.int .i64 0,.int .i64 0,.int .i64 0] 94)) s a 94;simpa only [World.size_alloc] using this),((((new_after w _).alloc (by simp) _).alloc (by simp;omega) _).alloc (by simp;omega) _)⟩
 case round =>
  obtain ⟨k,d,c,hk,rfl,rfl,hc0,hc1,HD,HL,HR,HZ,HO,HB⟩:=hrel
  by_cases hlt:k < 8
  ·have e1:=HL.out.dig k hlt
   have e2:=HR.out.dig k hlt
   have e3:=HO.out.dig k hlt
   have e4:=HO.out.free (1 + k) (by omega)
   have i0:(0:Int) <= (k:Int):=by omega
   have i1:(k:Int) < 8:=by omega
   have b1:=HA.out k hlt
   have b2:=HC.out k hlt
   have HN:Hid _:=fun n hn=>sum_next (n:=n) HA.out HC.out HD.out.1 hlt ⟨hc0,hc1⟩ HD.out.2 hn
   obtain ⟨p,hp⟩:∃ p,p = a k:=⟨_,rfl⟩
   obtain ⟨q,hq⟩:∃ q,q = b k:=⟨_,rfl⟩
   rw [<- hp] at e1 b1 HN
   rw [<- hq] at e2 b2 HN
   clear hp hq
   go_wp2
   go_region
   all_goals go_wp2
   all_goals go_roundw
   all_goals try (case rel=>obtain ⟨n1,n2,n3,n4⟩:=HN.out _ rfl;exact ⟨k + 1,put d k ((p + q + c) % 16777216),(p + q + c) / 16777216,by omega,by go_num,rfl,n2,n3,⟨n1,n4⟩,(HL.out.otherAt (by omega) _).drew,(HR.out.otherAt (by omega) _).drew,(HZ.out.otherAt (by omega) _).drew,(HO.out.put hlt _).drew,(setAt HB.out (by omega) _).drew⟩)
   all_goals try (case measure=>simp [intOf];omega)
  ·have hk8:8 <= (k:Int):=by omega
   have e8:k = 8:=by omega
   have HE:Hid (Digs d/\sv s d = sv s a + sv s b):=by
    obtain ⟨d1,d2⟩:=HD.out
    rw [e8] at d2
    exact ⟨d1,sum_done d1 hc0 d2 HF.out⟩
   obtain ⟨c0,c1,c2,c3,c4,c5,c6,c7,c8⟩:=HO.out.cells
   obtain ⟨r0,r1,r2,r3,r4,r5,r6,r7,r8⟩:=HZ.out.cells
   obtain ⟨f0,f1,f2,f3,f4,f5,f6,f7,f8⟩:=HZ.out.frees
   clear e8 HD HF HA HC
   go_wp2
   try simp only [Exit.inBlock,Exit.then]
   refine bodyPost_ret (by simp [results,Tryz.results147,go_sem,r0,r1,r2,r3,r4,r5,r6,r7,r8];try rfl) rfl ?_
   exact ⟨_,d,rfl,HE.out,below_nine HB.out (by omega)⟩
theorem dif_sv {s t:Bool} {a b d:Nat->Int} (hst:s ≠ t) (h:val d 8 = val a 8 - val b 8):sv s d = sv s a + sv t b:=by
 unfold sv;cases s <;> cases t <;> simp_all <;> omega
theorem dif_sv' {s t:Bool} {a b d:Nat->Int} (hst:s ≠ t) (h:val d 8 = val b 8 - val a 8):sv t d = sv s a + sv t b:=by
 unfold sv;cases s <;> cases t <;> simp_all <;> omega
theorem plus_other (s t:Bool) (a b:Nat->Int) (w:World) (ha:Digs a) (hb:Digs b) (hst:s ≠ t) (hle:val b 8 <= val a 8) :
  Calls Tryz.prog 147 #[wv s a,wv t b] w fun e w'=>∃ u d,e = .returned (wv u d)/\Hid (Digs d/\sv u d = sv s a + sv t b)/\Hid (Below w.heap.size w w'):=by
 have HS:Hid _:=fun w=>sizes_any s t a b w ha hb
 have HA:Hid _:=ha
 have HC:Hid _:=hb
 have HF:Hid (s ≠ t/\val b 8 <= val a 8):=⟨hst,hle⟩
 have hb1:(s == t) = false:=by simp [hst]
 clear ha hb hst hle
 go_enter Tryz.func147,Tryz.ntmps147
 go_wp2_with (fail)
 refine (HS.out _).mono ?_
 rintro e w1 ⟨c,rfl,SC,B⟩
 have hc0:0 <= c:=by have:=HF.out.2;rcases SC.out with h | h | h <;> omega
 have LA:Hid _:=RLies.below (RLies.alloc (RLies.alloc (by show RLies _ _ _ _;have:=lies_new w s a 94;simpa only [World.size_alloc] using this) _) _) B.out (by first | (simp;done) | (simp;omega))
 have LB:Hid _:=RLies.below (RLies.alloc (by show RLies _ _ _ _;have:=lies_new (w.alloc (.cells #[.bool s,.int .i64 (a 0),.int .i64 (a 1),.int .i64 (a 2),.int .i64 (a 3),.int .i64 (a 4),.int .i64 (a 5),.int .i64 (a 6),.int .i64 (a 7)] 94)) t b 94;simpa only [World.size_alloc] using this) _) B.out (by first | (simp;done) | (simp;omega))
 have LZ:Hid _:=RLies.below (by show RLies _ _ _ _;have:=lies_new ((w.alloc (.cells #[.bool s,.int .i64 (a 0),.int .i64 (a 1),.int .i64 (a 2),.int .i64 (a 3),.int .i64 (a 4),.int .i64 (a 5),.int .i64 (a 6),.int .i64 (a 7)] 94)).alloc (.cells #[.bool t,.int .i64 (b 0),.int .i64 (b 1),.int .i64 (b 2),.int .i64 (b 3),.int .i64 (b 4),.int .i64 (b 5),.int .i64 (b 6),.int .i64 (b 7)] 94)) false (fun _=>0) 94;simpa only [World.size_alloc] using this) B.out (by first | (simp;done) | (simp;omega))
 have hs1:=B.out.size
 simp only [World.size_alloc] at hs1
 have HB:Hid _:=below_step (w:=w) (((new_after w _).alloc (by simp) _).alloc (by simp;omega) _) B.out
 obtain ⟨a0,a1,a2,a3,a4,a5,a6,a7,a8⟩:=LA.out.cells
 clear HS SC B
 go_wp2
 obtain ⟨OUT,hOUT⟩:∃ o,o = w1.heap.size:=⟨_,rfl⟩
 rw [<- hOUT] at hs1 ⊢
 have HOUT:Hid _:=hOUT
 clear hOUT
 go_loopw [11,12] (fun cc i wr=>∃ (k:Nat) (d:Nat->Int) (c:Int),k <= 8/\i = .int .i64 k/\cc = .int .i64 c/\0 <= c/\c <= 1/\Hid (Digs d/\val d k - c * 16777216 ^ k = val a k - val b k)/\Hid (RLies wr w.heap.size s a)/\Hid (RLies wr (w.heap.size + 1) t b)/\Hid (RLies wr (w.heap.size + 1 + 1) false (fun _=>0))/\Hid (RLies wr OUT s d)/\Hid (Below w.heap.size w wr)) (fun _ i _=>8 - (intOf i).toNat)
 case atStart =>
  exact ⟨0,a,0,Nat.zero_le _,rfl,rfl,by omega,by omega,⟨HA.out,by simp [val]⟩,LA.out.alloc _,LB.out.alloc _,LZ.out.alloc _,by show RLies _ _ _ _;rw [HOUT.out];exact lies_new w1 s a 94,HB.out.alloc HB.out.size _⟩
 case round =>
  obtain ⟨k,d,c,hk,rfl,rfl,hc0,hc1,HD,HL,HR,HZ,HO,HB⟩:=hrel
  by_cases hlt:k < 8
  ·have e1:=HL.out.dig k hlt
   have e2:=HR.out.dig k hlt
   have e3:=HO.out.dig k hlt
   have e4:=HO.out.free (1 + k) (by omega)
   have i0:(0:Int) <= (k:Int):=by omega
   have i1:(k:Int) < 8:=by omega
   have b1:=HA.out k hlt
   have b2:=HC.out k hlt
   have HN:Hid _:=fun n c' hn=>dif_next (n:=n) (c':=c') HA.out HC.out HD.out.1 hlt ⟨hc0,hc1⟩ HD.out.2 hn
   obtain ⟨p,hp⟩:∃ p,p = a k:=⟨_,rfl⟩
   obtain ⟨q,hq⟩:∃ q,q = b k:=⟨_,rfl⟩
   rw [<- hp] at e1 b1 HN
   rw [<- hq] at e2 b2 HN
   clear hp hq
   by_cases hneg:p - q - c < 0
   ·have HM:Hid _:=HN.out _ _ (Or.inl ⟨hneg,rfl,rfl⟩)
    clear HN
    go_wp2
    go_region
    all_goals go_wp2
    all_goals go_roundw
    all_goals try (case rel=>obtain ⟨n1,n2,n3,n4⟩:=HM.out;exact ⟨k + 1,put d k (p - q - c + 16777216),1,by omega,by go_num,rfl,n2,n3,⟨n1,n4⟩,(HL.out.otherAt (by omega) _).drew,(HR.out.otherAt (by omega) _).drew,(HZ.out.otherAt (by omega) _).drew,(HO.out.put hlt _).drew,(setAt HB.out (by omega) _).drew⟩)
    all_goals try (case measure=>simp [intOf];omega)
   ·have HM:Hid _:=HN.out _ _ (Or.inr ⟨by omega,rfl,rfl⟩)
    clear HN
    go_wp2
    go_region
    all_goals go_wp2
    all_goals go_roundw
    all_goals try (case rel=>obtain ⟨n1,n2,n3,n4⟩:=HM.out;exact ⟨k + 1,put d k (p - q - c),0,by omega,by go_num,rfl,n2,n3,⟨n1,n4⟩,(HL.out.otherAt (by omega) _).drew,(HR.out.otherAt (by omega) _).drew,(HZ.out.otherAt (by omega) _).drew,(HO.out.put hlt _).drew,(setAt HB.out (by omega) _).drew⟩)
    all_goals try (case measure=>simp [intOf];omega)
  ·have hk8:8 <= (k:Int):=by omega
   have e8:k = 8:=by omega
   have HE:Hid (Digs d/\sv s d = sv s a + sv t b):=by
    obtain ⟨d1,d2⟩:=HD.out
    rw [e8] at d2
    exact ⟨d1,dif_sv HF.out.1 (dif_done d1 hc0 d2 HF.out.2)⟩
   obtain ⟨c0,c1,c2,c3,c4,c5,c6,c7,c8⟩:=HO.out.cells
   obtain ⟨r0,r1,r2,r3,r4,r5,r6,r7,r8⟩:=HZ.out.cells
   obtain ⟨f0,f1,f2,f3,f4,f5,f6,f7,f8⟩:=HZ.out.frees
   clear e8 HD HF HA HC
   go_wp2
   try simp only [Exit.inBlock,Exit.then]
   refine bodyPost_ret (by simp [results,Tryz.results147,go_sem,r0,r1,r2,r3,r4,r5,r6,r7,r8];try rfl) rfl ?_
   exact ⟨_,d,rfl,HE.out,below_nine HB.out (by omega)⟩
end
section
open Go.RowKit Ref
theorem size_nine {W:World} {b:Nat} {s:Bool} {d:Nat->Int}:(((((((((W.setCell ⟨b,0,none⟩ (.bool s)).setCell ⟨b,1,none⟩ (.int .i64 (d 0))).setCell ⟨b,2,none⟩ (.int .i64 (d 1))).setCell ⟨b,3,none⟩ (.int .i64 (d 2))).setCell ⟨b,4,none⟩ (.int .i64 (d 3))).setCell ⟨b,5,none⟩ (.int .i64 (d 4))).setCell ⟨b,6,none⟩ (.int .i64 (d 5))).setCell ⟨b,7,none⟩ (.int .i64 (d 6))).setCell ⟨b,8,none⟩ (.int .i64 (d 7))).heap.size = W.heap.size:=by simp [World.setCell]
theorem swapped {w w1:World} {s t:Bool} {a b:Nat->Int} (LA:RLies w1 w.heap.size s a) (LB:RLies w1 (w.heap.size + 1) t b) (LZ:RLies w1 (w.heap.size + 1 + 1) false (fun _=>0)) (HB:Below w.heap.size w w1) :
  RLies ((((((((((((((((((((w1.setCell ⟨w.heap.size,0,none⟩ (.bool t)).setCell ⟨w.heap.size,1,none⟩ (.int .i64 (b 0))).setCell ⟨w.heap.size,2,none⟩ (.int .i64 (b 1))).setCell ⟨w.heap.size,3,none⟩ (.int .i64 (b 2))).setCell ⟨w.heap.size,4,none⟩ (.int .i64 (b 3))).setCell ⟨w.heap.size,5,none⟩ (.int .i64 (b 4))).setCell ⟨w.heap.size,6,none⟩ (.int .i64 (b 5))).setCell ⟨w.heap.size,7,none⟩ (.int .i64 (b 6))).setCell ⟨w.heap.size,8,none⟩ (.int .i64 (b 7))).setCell ⟨(w.heap.size + 1),0,none⟩ (.bool s)).setCell ⟨(w.heap.size + 1),1,none⟩ (.int .i64 (a 0))).setCell ⟨(w.heap.size + 1),2,none⟩ (.int .i64 (a 1))).setCell ⟨(w.heap.size + 1),3,none⟩ (.int .i64 (a 2))).setCell ⟨(w.heap.size + 1),4,none⟩ (.int .i64 (a 3))).setCell ⟨(w.heap.size + 1),5,none⟩ (.int .i64 (a 4))).setCell ⟨(w.heap.size + 1),6,none⟩ (.int .i64 (a 5))).setCell ⟨(w.heap.size + 1),7,none⟩ (.int .i64 (a 6))).setCell ⟨(w.heap.size + 1),8,none⟩ (.int .i64 (a 7))).alloc (.cells #[.bool s,.int .i64 (a 0),.int .i64 (a 1),.int .i64 (a 2),.int .i64 (a 3),.int .i64 (a 4),.int .i64 (a 5),.int .i64 (a 6),.int .i64 (a 7)] 94)).alloc (.cells #[.bool t,.int .i64 (b 0),.int .i64 (b 1),.int .i64 (b 2),.int .i64 (b 3),.int .i64 (b 4),.int .i64 (b 5),.int .i64 (b 6),.int .i64 (b 7)] 94)) w.heap.size t b/\RLies ((((((((((((((((((((w1.setCell ⟨w.heap.size,0,none⟩ (.bool t)).setCell ⟨w.heap.size,1,none⟩ (.int .i64 (b 0))).setCell ⟨w.heap.size,2,none⟩ (.int .i64 (b 1))).setCell ⟨w.heap.size,3,none⟩ (.int .i64 (b 2))).setCell ⟨w.heap.size,4,none⟩ (.int .i64 (b 3))).setCell ⟨w.heap.size,5,none⟩ (.int .i64 (b 4))).setCell ⟨w.heap.size,6,none⟩ (.int .i64 (b 5))).setCell ⟨w.heap.size,7,none⟩ (.int .i64 (b 6))).setCell ⟨w.heap.size,8,none⟩ (.int .i64 (b 7))).setCell ⟨(w.heap.size + 1),0,none⟩ (.bool s)).setCell ⟨(w.heap.size + 1),1,none⟩ (.int .i64 (a 0))).setCell ⟨(w.heap.size + 1),2,none⟩ (.int .i64 (a 1))).setCell ⟨(w.heap.size + 1),3,none⟩ (.int .i64 (a 2))).setCell ⟨(w.heap.size + 1),4,none⟩ (.int .i64 (a 3))).setCell ⟨(w.heap.size + 1),5,none⟩ (.int .i64 (a 4))).setCell ⟨(w.heap.size + 1),6,none⟩ (.int .i64 (a 5))).setCell ⟨(w.heap.size + 1),7,none⟩ (.int .i64 (a 6))).setCell ⟨(w.heap.size + 1),8,none⟩ (.int .i64 (a 7))).alloc (.cells #[.bool s,.int .i64 (a 0),.int .i64 (a 1),.int .i64 (a 2),.int .i64 (a 3),.int .i64 (a 4),.int .i64 (a 5),.int .i64 (a 6),.int .i64 (a 7)] 94)).alloc (.cells #[.bool t,.int .i64 (b 0),.int .i64 (b 1),.int .i64 (b 2),.int .i64 (b 3),.int .i64 (b 4),.int .i64 (b 5),.int .i64 (b 6),.int .i64 (b 7)] 94)) (w.heap.size + 1) s a/\RLies ((((((((((((((((((((w1.setCell ⟨w.heap.size,0,none⟩ (.bool t)).setCell ⟨w.heap.size,1,none⟩ (.int .i64 (b 0))).setCell ⟨w.heap.size,2,none⟩ (.int .i64 (b 1))).setCell ⟨w.heap.size,3,none⟩ (.int .i64 (b 2))).setCell ⟨w.heap.size,4,none⟩ (.int .i64 (b 3))).setCell ⟨w.heap.size,5,none⟩ (.int .i64 (b 4))).setCell ⟨w.heap.size,6,none⟩ (.int .i64 (b 5))).setCell ⟨w.heap.size,7,none⟩ (.int .i64 (b 6))).setCell ⟨w.heap.size,8,none⟩ (.int .i64 (b 7))).setCell ⟨(w.heap.size + 1),0,none⟩ (.bool s)).setCell ⟨(w.heap.size + 1),1,none⟩ (.int .i64 (a 0))).setCell ⟨(w.heap.size + 1),2,none⟩ (.int .i64 (a 1))).setCell ⟨(w.heap.size + 1),3,none⟩ (.int .i64 (a 2))).setCell ⟨(w.heap.size + 1),4,none⟩ (.int .i64 (a 3))).setCell ⟨(w.heap.size + 1),5,none⟩ (.int .i64 (a 4))).setCell ⟨(w.heap.size + 1),6,none⟩ (.int .i64 (a 5))).setCell ⟨(w.heap.size + 1),7,none⟩ (.int .i64 (a 6))).setCell ⟨(w.heap.size + 1),8,none⟩ (.int .i64 (a 7))).alloc (.cells #[.bool s,.int .i64 (a 0),.int .i64 (a 1),.int .i64 (a 2),.int .i64 (a 3),.int .i64 (a 4),.int .i64 (a 5),.int .i64 (a 6),.int .i64 (a 7)] 94)).alloc (.cells #[.bool t,.int .i64 (b 0),.int .i64 (b 1),.int .i64 (b 2),.int .i64 (b 3),.int .i64 (b 4),.int .i64 (b 5),.int .i64 (b 6),.int .i64 (b 7)] 94)) (w.heap.size + 1 + 1) false (fun _=>0) /\
  RLies ((((((((((((((((((((w1.setCell ⟨w.heap.size,0,none⟩ (.bool t)).setCell ⟨w.heap.size,1,none⟩ (.int .i64 (b 0))).setCell ⟨w.heap.size,2,none⟩ (.int .i64 (b 1))).setCell ⟨w.heap.size,3,none⟩ (.int .i64 (b 2))).setCell ⟨w.heap.size,4,none⟩ (.int .i64 (b 3))).setCell ⟨w.heap.size,5,none⟩ (.int .i64 (b 4))).setCell ⟨w.heap.size,6,none⟩ (.int .i64 (b 5))).setCell ⟨w.heap.size,7,none⟩ (.int .i64 (b 6))).setCell ⟨w.heap.size,8,none⟩ (.int .i64 (b 7))).setCell ⟨(w.heap.size + 1),0,none⟩ (.bool s)).setCell ⟨(w.heap.size + 1),1,none⟩ (.int .i64 (a 0))).setCell ⟨(w.heap.size + 1),2,none⟩ (.int .i64 (a 1))).setCell ⟨(w.heap.size + 1),3,none⟩ (.int .i64 (a 2))).setCell ⟨(w.heap.size + 1),4,none⟩ (.int .i64 (a 3))).setCell ⟨(w.heap.size + 1),5,none⟩ (.int .i64 (a 4))).setCell ⟨(w.heap.size + 1),6,none⟩ (.int .i64 (a 5))).setCell ⟨(w.heap.size + 1),7,none⟩ (.int .i64 (a 6))).setCell ⟨(w.heap.size + 1),8,none⟩ (.int .i64 (a 7))).alloc (.cells #[.bool s,.int .i64 (a 0),.int .i64 (a 1),.int .i64 (a 2),.int .i64 (a 3),.int .i64 (a 4),.int .i64 (a 5),.int .i64 (a 6),.int .i64 (a 7)] 94)).alloc (.cells #[.bool t,.int .i64 (b 0),.int .i64 (b 1),.int .i64 (b 2),.int .i64 (b 3),.int .i64 (b 4),.int .i64 (b 5),.int .i64 (b 6),.int .i64 (b 7)] 94)) (w1.heap.size + 1) t b/\Below w.heap.size w ((((((((((((((((((((w1.setCell ⟨w.heap.size,0,none⟩ (.bool t)).setCell ⟨w.heap.size,1,none⟩ (.int .i64 (b 0))).setCell ⟨w.heap.size,2,none⟩ (.int .i64 (b 1))).setCell ⟨w.heap.size,3,none⟩ (.int .i64 (b 2))).setCell ⟨w.heap.size,4,none⟩ (.int .i64 (b 3))).setCell ⟨w.heap.size,5,none⟩ (.int .i64 (b 4))).setCell ⟨w.heap.size,6,none⟩ (.int .i64 (b 5))).setCell ⟨w.heap.size,7,none⟩ (.int .i64 (b 6))).setCell ⟨w.heap.size,8,none⟩ (.int .i64 (b 7))).setCell ⟨(w.heap.size + 1),0,none⟩ (.bool s)).setCell ⟨(w.heap.size + 1),1,none⟩ (.int .i64 (a 0))).setCell ⟨(w.heap.size + 1),2,none⟩ (.int .i64 (a 1))).setCell ⟨(w.heap.size + 1),3,none⟩ (.int .i64 (a 2))).setCell ⟨(w.heap.size + 1),4,none⟩ (.int .i64 (a 3))).setCell ⟨(w.heap.size + 1),5,none⟩ (.int .i64 (a 4))).setCell ⟨(w.heap.size + 1),6,none⟩ (.int .i64 (a 5))).setCell ⟨(w.heap.size + 1),7,none⟩ (.int .i64 (a 6))).setCell ⟨(w.heap.size + 1),8,none⟩ (.int .i64 (a 7))).alloc (.cells #[.bool s,.int .i64 (a 0),.int .i64 (a 1),.int .i64 (a 2),.int .i64 (a 3),.int .i64 (a 4),.int .i64 (a 5),.int .i64 (a 6),.int .i64 (a 7)] 94)).alloc (.cells #[.bool t,.int .i64 (b 0),.int .i64 (b 1),.int .i64 (b 2),.int .i64 (b 3),.int .i64 (b 4),.int .i64 (b 5),.int .i64 (b 6),.int .i64 (b 7)] 94)):=by
 have hs:((((((((((((((((((w1.setCell ⟨w.heap.size,0,none⟩ (.bool t)).setCell ⟨w.heap.size,1,none⟩ (.int .i64 (b 0))).setCell ⟨w.heap.size,2,none⟩ (.int .i64 (b 1))).setCell ⟨w.heap.size,3,none⟩ (.int .i64 (b 2))).setCell ⟨w.heap.size,4,none⟩ (.int .i64 (b 3))).setCell ⟨w.heap.size,5,none⟩ (.int .i64 (b 4))).setCell ⟨w.heap.size,6,none⟩ (.int .i64 (b 5))).setCell ⟨w.heap.size,7,none⟩ (.int .i64 (b 6))).setCell ⟨w.heap.size,8,none⟩ (.int .i64 (b 7))).setCell ⟨(w.heap.size + 1),0,none⟩ (.bool s)).setCell ⟨(w.heap.size + 1),1,none⟩ (.int .i64 (a 0))).setCell ⟨(w.heap.size + 1),2,none⟩ (.int .i64 (a 1))).setCell ⟨(w.heap.size + 1),3,none⟩ (.int .i64 (a 2))).setCell ⟨(w.heap.size + 1),4,none⟩ (.int .i64 (a 3))).setCell ⟨(w.heap.size + 1),5,none⟩ (.int .i64 (a 4))).setCell ⟨(w.heap.size + 1),6,none⟩ (.int .i64 (a 5))).setCell ⟨(w.heap.size + 1),7,none⟩ (.int .i64 (a 6))).setCell ⟨(w.heap.size + 1),8,none⟩ (.int .i64 (a 7))).heap.size = w1.heap.size:=by rw [size_nine,size_nine]
 refine ⟨(((lies_nine LA).nine (by omega)).alloc _).alloc _,((lies_nine (LB.nine (by omega))).alloc _).alloc _,(((LZ.nine (by omega)).nine (by omega)).alloc _).alloc _,?_,?_⟩
 ·have:=lies_new (((((((((((((((((((w1.setCell ⟨w.heap.size,0,none⟩ (.bool t)).setCell ⟨w.heap.size,1,none⟩ (.int .i64 (b 0))).setCell ⟨w.heap.size,2,none⟩ (.int .i64 (b 1))).setCell ⟨w.heap.size,3,none⟩ (.int .i64 (b 2))).setCell ⟨w.heap.size,4,none⟩ (.int .i64 (b 3))).setCell ⟨w.heap.size,5,none⟩ (.int .i64 (b 4))).setCell ⟨w.heap.size,6,none⟩ (.int .i64 (b 5))).setCell ⟨w.heap.size,7,none⟩ (.int .i64 (b 6))).setCell ⟨w.heap.size,8,none⟩ (.int .i64 (b 7))).setCell ⟨(w.heap.size + 1),0,none⟩ (.bool s)).setCell ⟨(w.heap.size + 1),1,none⟩ (.int .i64 (a 0))).setCell ⟨(w.heap.size + 1),2,none⟩ (.int .i64 (a 1))).setCell ⟨(w.heap.size + 1),3,none⟩ (.int .i64 (a 2))).setCell ⟨(w.heap.size + 1),4,none⟩ (.int .i64 (a 3))).setCell ⟨(w.heap.size + 1),5,none⟩ (.int .i64 (a 4))).setCell ⟨(w.heap.size + 1),6,none⟩ (.int .i64 (a 5))).setCell ⟨(w.heap.size + 1),7,none⟩ (.int .i64 (a 6))).setCell ⟨(w.heap.size + 1),8,none⟩ (.int .i64 (a 7))).alloc (.cells #[.bool s,.int .i64 (a 0),.int .i64 (a 1),.int .i64 (a 2),.int .i64 (a 3),.int .i64 (a 4),.int .i64 (a 5),.int .i64 (a 6),.int .i64 (a 7)] 94)) t b 94
  rwa [World.size_alloc,hs] at this
 ·have h1:Below w.heap.size w ((((((((((((((((((w1.setCell ⟨w.heap.size,0,none⟩ (.bool t)).setCell ⟨w.heap.size,1,none⟩ (.int .i64 (b 0))).setCell ⟨w.heap.size,2,none⟩ (.int .i64 (b 1))).setCell ⟨w.heap.size,3,none⟩ (.int .i64 (b 2))).setCell ⟨w.heap.size,4,none⟩ (.int .i64 (b 3))).setCell ⟨w.heap.size,5,none⟩ (.int .i64 (b 4))).setCell ⟨w.heap.size,6,none⟩ (.int .i64 (b 5))).setCell ⟨w.heap.size,7,none⟩ (.int .i64 (b 6))).setCell ⟨w.heap.size,8,none⟩ (.int .i64 (b 7))).setCell ⟨(w.heap.size + 1),0,none⟩ (.bool s)).setCell ⟨(w.heap.size + 1),1,none⟩ (.int .i64 (a 0))).setCell ⟨(w.heap.size + 1),2,none⟩ (.int .i64 (a 1))).setCell ⟨(w.heap.size + 1),3,none⟩ (.int .i64 (a 2))).setCell ⟨(w.heap.size + 1),4,none⟩ (.int .i64 (a 3))).setCell ⟨(w.heap.size + 1),5,none⟩ (.int .i64 (a 4))).setCell ⟨(w.heap.size + 1),6,none⟩ (.int .i64 (a 5))).setCell ⟨(w.heap.size + 1),7,none⟩ (.int .i64 (a 6))).setCell ⟨(w.heap.size + 1),8,none⟩ (.int .i64 (a 7))):=below_nine (below_nine HB (Nat.le_refl _)) (by omega)
  have h2:=h1.size
  exact (h1.alloc h2 _).alloc (by rw [World.size_alloc];omega) _
theorem plus_swap (s t:Bool) (a b:Nat->Int) (w:World) (ha:Digs a) (hb:Digs b) (hst:s ≠ t) (hle:val a 8 < val b 8) :
  Calls Tryz.prog 147 #[wv s a,wv t b] w fun e w'=>∃ u d,e = .returned (wv u d)/\Hid (Digs d/\sv u d = sv s a + sv t b)/\Hid (Below w.heap.size w w'):=by
 have HS:Hid _:=fun w=>sizes_any s t a b w ha hb
 have HC:Hid _:=ha
 have HA:Hid _:=hb
 have HF:Hid (s ≠ t/\val a 8 < val b 8):=⟨hst,hle⟩
 have hb1:(s == t) = false:=by simp [hst]
 clear ha hb hst hle
 go_enter Tryz.func147,Tryz.ntmps147
 go_wp2_with (fail)
 refine (HS.out _).mono ?_
 rintro e w1 ⟨c,rfl,SC,B⟩
 have hc0:c < 0:=by have:=HF.out.2;rcases SC.out with h | h | h <;> omega
 have LA:Hid _:=RLies.below (RLies.alloc (RLies.alloc (by show RLies _ _ _ _;have:=lies_new w s a 94;simpa only [World.size_alloc] using this) _) _) B.out (by first | (simp;done) | (simp;omega))
 have LB:Hid _:=RLies.below (RLies.alloc (by show RLies _ _ _ _;have:=lies_new (w.alloc (.cells #[.bool s,.int .i64 (a 0),.int .i64 (a 1),.int .i64 (a 2),.int .i64 (a 3),.int .i64 (a 4),.int .i64 (a 5),.int .i64 (a 6),.int .i64 (a 7)] 94)) t b 94;simpa only [World.size_alloc] using this) _) B.out (by first | (simp;done) | (simp;omega))
 have LZ:Hid _:=RLies.below (by show RLies _ _ _ _;have:=lies_new ((w.alloc (.cells #[.bool s,.int .i64 (a 0),.int .i64 (a 1),.int .i64 (a 2),.int .i64 (a 3),.int .i64 (a 4),.int .i64 (a 5),.int .i64 (a 6),.int .i64 (a 7)] 94)).alloc (.cells #[.bool t,.int .i64 (b 0),.int .i64 (b 1),.int .i64 (b 2),.int .i64 (b 3),.int .i64 (b 4),.int .i64 (b 5),.int .i64 (b 6),.int .i64 (b 7)] 94)) false (fun _=>0) 94;simpa only [World.size_alloc] using this) B.out (by first | (simp;done) | (simp;omega))
 have hs1:=B.out.size
 simp only [World.size_alloc] at hs1
 have HB:Hid _:=below_step (w:=w) (((new_after w _).alloc (by simp) _).alloc (by simp;omega) _) B.out
 obtain ⟨a0,a1,a2,a3,a4,a5,a6,a7,a8⟩:=LA.out.cells
 obtain ⟨g0,g1,g2,g3,g4,g5,g6,g7,g8⟩:=LA.out.frees
 obtain ⟨b0,b1,b2,b3,b4,b5,b6,b7,b8⟩:=LB.out.cells
 obtain ⟨h0,h1,h2,h3,h4,h5,h6,h7,h8⟩:=LB.out.frees
 have m0:w.heap.size < w1.heap.size:=by omega
 have m1:w.heap.size + 1 < w1.heap.size:=by omega
 have n0:w.heap.size ≠ w1.heap.size:=by omega
 have n1:w.heap.size + 1 ≠ w1.heap.size:=by omega
 have n2:w1.heap.size ≠ w.heap.size:=by omega
 have n3:w1.heap.size ≠ w.heap.size + 1:=by omega
 clear HS SC B
 go_wp2
 obtain ⟨x1,x2,x3,x4,x5⟩:=swapped LA.out LB.out LZ.out HB.out
 have X1:Hid _:=x1
 have X2:Hid _:=x2
 have X3:Hid _:=x3
 have X4:Hid _:=x4
 have X5:Hid _:=x5
 clear x1 x2 x3 x4 x5 LA LB LZ HB a0 a1 a2 a3 a4 a5 a6 a7 a8 g0 g1 g2 g3 g4 g5 g6 g7 g8 b0 b1 b2 b3 b4 b5 b6 b7 b8 h0 h1 h2 h3 h4 h5 h6 h7 h8
 obtain ⟨OUT,hOUT⟩:∃ o,o = w1.heap.size + 1:=⟨_,rfl⟩
 rw [<- hOUT]
 rw [<- hOUT] at X4
 have hs2:w.heap.size + 3 < OUT:=by omega
 clear hOUT
 go_loopw [11,12] (fun cc i wr=>∃ (k:Nat) (d:Nat->Int) (c:Int),k <= 8/\i = .int .i64 k/\cc = .int .i64 c/\0 <= c/\c <= 1/\Hid (Digs d/\val d k - c * 16777216 ^ k = val b k - val a k)/\Hid (RLies wr w.heap.size t b)/\Hid (RLies wr (w.heap.size + 1) s a)/\Hid (RLies wr (w.heap.size + 1 + 1) false (fun _=>0))/\Hid (RLies wr OUT t d)/\Hid (Below w.heap.size w wr)) (fun _ i _=>8 - (intOf i).toNat)
 case atStart =>
  exact ⟨0,b,0,Nat.zero_le _,rfl,rfl,by omega,by omega,⟨HA.out,by simp [val]⟩,X1,X2,X3,X4,X5⟩
 case round =>
  obtain ⟨k,d,c,hk,rfl,rfl,hc0,hc1,HD,HL,HR,HZ,HO,HB⟩:=hrel
  by_cases hlt:k < 8
  ·have e1:=HL.out.dig k hlt
   have e2:=HR.out.dig k hlt
   have e3:=HO.out.dig k hlt
   have e4:=HO.out.free (1 + k) (by omega)
   have i0:(0:Int) <= (k:Int):=by omega
   have i1:(k:Int) < 8:=by omega
   have b1:=HA.out k hlt
   have b2:=HC.out k hlt
   have HN:Hid _:=fun n c' hn=>dif_next (n:=n) (c':=c') HA.out HC.out HD.out.1 hlt ⟨hc0,hc1⟩ HD.out.2 hn
   obtain ⟨p,hp⟩:∃ p,p = b k:=⟨_,rfl⟩
   obtain ⟨q,hq⟩:∃ q,q = a k:=⟨_,rfl⟩
   rw [<- hp] at e1 b1 HN
   rw [<- hq] at e2 b2 HN
   clear hp hq
   by_cases hneg:p - q - c < 0
   ·have HM:Hid _:=HN.out _ _ (Or.inl ⟨hneg,rfl,rfl⟩)
    clear HN
    go_wp2
    go_region
    all_goals go_wp2
    all_goals go_roundw
    all_goals try (case rel=>obtain ⟨n1,n2,n3,n4⟩:=HM.out;exact ⟨k + 1,put d k (p - q - c + 16777216),1,by omega,by go_num,rfl,n2,n3,⟨n1,n4⟩,(HL.out.otherAt (by omega) _).drew,(HR.out.otherAt (by omega) _).drew,(HZ.out.otherAt (by omega) _).drew,(HO.out.put hlt _).drew,(setAt HB.out (by omega) _).drew⟩)
    all_goals try (case measure=>simp [intOf];omega)
   ·have HM:Hid _:=HN.out _ _ (Or.inr ⟨by omega,rfl,rfl⟩)
    clear HN
    go_wp2
    go_region
    all_goals go_wp2
    all_goals go_roundw
    all_goals try (case rel=>obtain ⟨n1,n2,n3,n4⟩:=HM.out;exact ⟨k + 1,put d k (p - q - c),0,by omega,by go_num,rfl,n2,n3,⟨n1,n4⟩,(HL.out.otherAt (by omega) _).drew,(HR.out.otherAt (by omega) _).drew,(HZ.out.otherAt (by omega) _).drew,(HO.out.put hlt _).drew,(setAt HB.out (by omega) _).drew⟩)
    all_goals try (case measure=>simp [intOf];omega)
  ·have hk8:8 <= (k:Int):=by omega
   have e8:k = 8:=by omega
   have HE:Hid (Digs d/\sv t d = sv s a + sv t b):=by
    obtain ⟨d1,d2⟩:=HD.out
    rw [e8] at d2
    exact ⟨d1,dif_sv' HF.out.1 (dif_done d1 hc0 d2 (Int.le_of_lt HF.out.2))⟩
   obtain ⟨c0,c1,c2,c3,c4,c5,c6,c7,c8⟩:=HO.out.cells
   obtain ⟨r0,r1,r2,r3,r4,r5,r6,r7,r8⟩:=HZ.out.cells
   obtain ⟨f0,f1,f2,f3,f4,f5,f6,f7,f8⟩:=HZ.out.frees
   clear e8 HD HF HA HC
   go_wp2
   try simp only [Exit.inBlock,Exit.then]
   refine bodyPost_ret (by simp [results,Tryz.results147,go_sem,r0,r1,r2,r3,r4,r5,r6,r7,r8];try rfl) rfl ?_
   exact ⟨_,d,rfl,HE.out,below_nine HB.out (by omega)⟩
theorem plusw_any (s t:Bool) (a b:Nat->Int) (w:World) (ha:Digs a) (hb:Digs b) (hfit:(sv s a + sv t b).natAbs < 6277101735386680763835789423207666416102355444464034512896) :
  Calls Tryz.prog 147 #[wv s a,wv t b] w fun e w'=>∃ u d,e = .returned (wv u d)/\Hid (Digs d/\sv u d = sv s a + sv t b)/\Hid (Below w.heap.size w w'):=by
 by_cases hst:s = t
 ·subst hst;exact plus_same s a b w ha hb hfit
 ·by_cases hle:val b 8 <= val a 8
  ·exact plus_other s t a b w ha hb hst hle
  ·exact plus_swap s t a b w ha hb hst (by omega)
theorem sv_not (t:Bool) (b:Nat->Int):sv (!t) b = -sv t b:=by unfold sv;cases t <;> simp
theorem rless_any (s t:Bool) (a b:Nat->Int) (w:World) (ha:Digs a) (hb:Digs b) (hfit:(sv s a - sv t b).natAbs < 6277101735386680763835789423207666416102355444464034512896) :
  Calls Tryz.prog 148 #[wv s a,wv t b] w fun e w'=>∃ c,e = .returned (.bool c)/\Hid (c = true ↔ sv s a < sv t b)/\Hid (Below w.heap.size w w'):=by
 have HP:Hid _:=fun w=>plusw_any s (!t) a b w ha hb (by rw [sv_not];exact hfit)
 clear ha hb hfit
 go_enter Tryz.func148,Tryz.ntmps148
 go_wp2_with (fail)
 refine (HP.out _).mono ?_
 rintro e w1 ⟨u,d,rfl,SC,B⟩
 have HS:Hid _:=fun w=>sign_any u d w SC.out.1
 have HB:Hid _:=below_step (w:=w) ((new_after w _).alloc (by simp) _) B.out
 clear B HP
 go_wp2_with (fail)
 refine (HS.out _).mono ?_
 rintro e w2 ⟨c,rfl,SD,B⟩
 have HB2:Hid _:=below_step HB.out B.out
 clear B HS HB
 go_wp2_with (fail)
 go_ret
 refine ⟨_,rfl,?_,HB2.out⟩
 have h1:=SD.out.2.2
 have h2:=SC.out.2
 rw [sv_not] at h2
 show _ ↔ _
 simp only [decide_eq_true_eq]
 omega
end
end Go.Proofs.YtablgiflakncfaaGreat
