/- How many axes and edges a hull can have: no pair of its points lies on three of its sides. Plain mathematics. -/
import Derived.Test.YtohbjabihdgjhaaGreatSSFree22
import Derived.Test.YtohbjabihdgjhaaGreatSSFree16
import Derived.Test.YtohbjabihdgjhaaGreatSSFree20
import Derived.Test.YtohbjabihdgjhaaGreatSSFree1
import Derived.Test.YtohbjabihdgjhaaGreatSSFree0
import Derived.Test.YtohbjabihdgjhaaGreatSSFree8
import Derived.Test.YtohbjabihdgjhaaGreatSSFree18
set_option maxHeartbeats 8000000
set_option maxRecDepth 100000
set_option linter.unusedVariables false
namespace Go.Proofs.YtohbjabihdgjhaaGreat
section
theorem filter_two {α:Type} (p:α->Bool):∀ L:List α,L.length = (L.filter p).length + (L.filter (fun x=>!p x)).length
 | []=>rfl
 | x :: r=>by
  have:=filter_two p r
  cases h:p x <;> simp [h] <;> omega
theorem fiber_le {α β:Type} [DecidableEq β] (f:α->β) (c:Nat):∀ (Q:List β) (L:List α),(∀ x ∈ L,f x ∈ Q)->(∀ q ∈ Q,(L.filter (fun x=>decide (f x = q))).length <= c)->L.length <= c * Q.length
 | [],L,h,_=>by
  cases L with
  | nil=>simp
  | cons x r=>exact absurd (h x List.mem_cons_self) (by simp)
 | q :: Q,L,h,hc=>by
  have h1:=hc q List.mem_cons_self
  have h2:=fiber_le f c Q (L.filter (fun x=>!decide (f x = q))) (fun x hx=>by
   rw [List.mem_filter] at hx
   rcases List.mem_cons.1 (h x hx.1) with e | e
   ·simp [e] at hx
   ·exact e) (fun q' hq'=>by
   refine Nat.le_trans ?_ (hc q' (List.mem_cons_of_mem _ hq'))
   rw [List.filter_filter]
   rw [<- List.countP_eq_length_filter,<- List.countP_eq_length_filter]
   exact List.countP_mono_left (fun x _ hx=>by simp at hx ⊢;exact hx.1))
  have h3:=filter_two (fun x=>decide (f x = q)) L
  rw [List.length_cons,Nat.mul_succ]
  omega
def pairsL:List Pt->List (Pt × Pt)
 | []=>[]
 | x :: r=>r.map (fun y=>(x,y)) ++ pairsL r
theorem pairs_mem {b c:Pt}:∀ {L:List Pt},List.Sublist [b,c] L->(b,c) ∈ pairsL L
 | [],h=>by simp at h
 | x :: r,h=>by
  rw [pairsL,List.mem_append]
  rcases List.sublist_cons_iff.1 h with h | ⟨t,e,h⟩
  ·exact Or.inr (pairs_mem h)
  ·simp only [List.cons.injEq] at e
   obtain ⟨rfl,rfl⟩:=e
   exact Or.inl (List.mem_map.2 ⟨c,List.singleton_sublist.1 h,rfl⟩)
theorem pairs_len:∀ L:List Pt,(pairsL L).length * 2 + L.length = L.length * L.length
 | []=>rfl
 | x :: r=>by
  have:=pairs_len r
  simp only [pairsL,List.length_append,List.length_map,List.length_cons]
  grind
theorem pairs_55 {L:List Pt} (h:L.length <= 11):(pairsL L).length <= 55:=by
 have h1:=pairs_len L
 generalize (pairsL L).length = k at *
 have:L.length = 0 \/ L.length = 1 \/ L.length = 2 \/ L.length = 3 \/ L.length = 4 \/ L.length = 5 \/ L.length = 6 \/ L.length = 7 \/ L.length = 8 \/ L.length = 9 \/ L.length = 10 \/ L.length = 11:=by omega
 rcases this with e | e | e | e | e | e | e | e | e | e | e | e <;> rw [e] at h1 <;> omega
theorem pairs_66 {L:List Pt} (h:L.length <= 12):(pairsL L).length <= 66:=by
 have h1:=pairs_len L
 generalize (pairsL L).length = k at *
 have:L.length = 0 \/ L.length = 1 \/ L.length = 2 \/ L.length = 3 \/ L.length = 4 \/ L.length = 5 \/ L.length = 6 \/ L.length = 7 \/ L.length = 8 \/ L.length = 9 \/ L.length = 10 \/ L.length = 11 \/ L.length = 12:=by omega
 rcases this with e | e | e | e | e | e | e | e | e | e | e | e | e <;> rw [e] at h1 <;> omega
def tri (a b c:Pt):Int:=(a.cross b).dot c
theorem sq_zero {x y z:Int} (h:x * x + y * y + z * z = 0):x = 0/\y = 0/\z = 0:=by
 have s:∀ t:Int,0 <= t * t:=fun t=>by rcases Int.le_total 0 t with h | h;exact Int.mul_nonneg h h;have:=Int.mul_nonneg (a:=-t) (b:=-t) (by omega) (by omega);rwa [Int.neg_mul_neg] at this
 have hx:=s x
 have hy:=s y
 have hz:=s z
 refine ⟨?_,?_,?_⟩
 ·have:x * x = 0:=by omega
  rcases Int.mul_eq_zero.1 this with h | h <;> exact h
 ·have:y * y = 0:=by omega
  rcases Int.mul_eq_zero.1 this with h | h <;> exact h
 ·have:z * z = 0:=by omega
  rcases Int.mul_eq_zero.1 this with h | h <;> exact h
theorem self_pos {p:Pt} (h:p ≠ Pt.O):p.dot p ≠ 0:=fun e=>h (by
 obtain ⟨h1,h2,h3⟩:=sq_zero e
 cases p
 simp only [Pt.O] at *
 simp [h1,h2,h3])
theorem hang (a b c e y:Pt):tri b c e * a.dot y + tri c a e * b.dot y + tri a b e * c.dot y = tri a b c * e.dot y:=by
 simp only [tri,Pt.cross,Pt.dot]
 grind
theorem three_flat {a b c e:Pt} (h0:e ≠ Pt.O) (ha:a.dot e = 0) (hb:b.dot e = 0) (hc:c.dot e = 0) (y:Pt):tri b c e * a.dot y + tri c a e * b.dot y + tri a b e * c.dot y = 0:=by
 have h1:=hang a b c e e
 rw [ha,hb,hc] at h1
 simp only [Int.mul_zero,Int.add_zero] at h1
 have h2:tri a b c = 0:=(Int.mul_eq_zero.1 h1.symm).resolve_right (self_pos h0)
 rw [hang,h2,Int.zero_mul]
theorem same_way {a b e:Pt} (h0:e ≠ Pt.O) (ha:a.dot e = 0) (hb:b.dot e = 0) (h:tri a b e = 0):a.cross b = Pt.O:=by
 have h1:(a.cross b).dot (a.cross b) * e.dot e = 0:=by
  simp only [tri,Pt.cross,Pt.dot] at *
  grind
 have h2:=(Int.mul_eq_zero.1 h1).resolve_right (self_pos h0)
 by_cases h3:a.cross b = Pt.O
 ·exact h3
 ·exact absurd h2 (self_pos h3)
theorem both_nought {A B x y:Int} (hA:A ≠ 0) (hB:B ≠ 0) (hs:0 < A * B) (hx:x <= 0) (hy:y <= 0) (h:A * x + B * y = 0):x = 0/\y = 0:=by
 rcases Int.lt_or_gt_of_ne hA with a | a
 ·have b:B < 0:=by
   rcases Int.lt_or_gt_of_ne hB with b | b
   ·exact b
   ·have:=Int.mul_neg_of_neg_of_pos a b;omega
  have h1:0 <= A * x:=by have:=Int.mul_nonneg (a:=-A) (b:=-x) (by omega) (by omega);rwa [Int.neg_mul_neg] at this
  have h2:0 <= B * y:=by have:=Int.mul_nonneg (a:=-B) (b:=-y) (by omega) (by omega);rwa [Int.neg_mul_neg] at this
  exact ⟨(Int.mul_eq_zero.1 (show A * x = 0 by omega)).resolve_left hA,(Int.mul_eq_zero.1 (show B * y = 0 by omega)).resolve_left hB⟩
 ·have b:0 < B:=by
   rcases Int.lt_or_gt_of_ne hB with b | b
   ·have:=Int.mul_neg_of_pos_of_neg a b;omega
   ·exact b
  have h1:A * x <= 0:=by have:=Int.mul_nonneg (a:=A) (b:=-x) (by omega) (by omega);rw [Int.mul_neg] at this;omega
  have h2:B * y <= 0:=by have:=Int.mul_nonneg (a:=B) (b:=-y) (by omega) (by omega);rw [Int.mul_neg] at this;omega
  exact ⟨(Int.mul_eq_zero.1 (show A * x = 0 by omega)).resolve_left hA,(Int.mul_eq_zero.1 (show B * y = 0 by omega)).resolve_left hB⟩
theorem two_alike {A B C:Int} (hA:A ≠ 0) (hB:B ≠ 0) (hC:C ≠ 0):0 < A * B \/ 0 < B * C \/ 0 < C * A:=by
 rcases Int.lt_or_gt_of_ne hA with a | a <;> rcases Int.lt_or_gt_of_ne hB with b | b <;> rcases Int.lt_or_gt_of_ne hC with c | c
 ·exact Or.inl (Int.mul_pos_of_neg_of_neg a b)
 ·exact Or.inl (Int.mul_pos_of_neg_of_neg a b)
 ·exact Or.inr (Or.inr (Int.mul_pos_of_neg_of_neg c a))
 ·exact Or.inr (Or.inl (Int.mul_pos b c))
 ·exact Or.inr (Or.inl (Int.mul_pos_of_neg_of_neg b c))
 ·exact Or.inr (Or.inr (Int.mul_pos c a))
 ·exact Or.inl (Int.mul_pos a b)
 ·exact Or.inl (Int.mul_pos a b)
structure Sd (L:List Pt) (b c N a:Pt):Prop where
 ne:N ≠ Pt.O
 sq:N.dot (c.sub b) = 0
 le:∀ x ∈ L,N.dot (x.sub b) <= 0
 mem:a ∈ L
 on:N.dot (a.sub b) = 0
 is:N = (c.sub b).cross (a.sub b) \/ N = ((c.sub b).cross (a.sub b)).neg
theorem tri_is (e u N:Pt):tri (e.cross u) N e = N.dot e * u.dot e - N.dot u * e.dot e:=by
 simp only [tri,Pt.cross,Pt.dot]
 grind
theorem tri_neg (p N e:Pt):tri p.neg N e = -(tri p N e):=by
 simp only [tri,Pt.cross,Pt.dot,Pt.neg]
 grind
theorem third {b c N1 N2 N3 a1 a2 a3:Pt} {L:List Pt} (h1:Sd L b c N1 a1) (h2:Sd L b c N2 a2) (h3:Sd L b c N3 a3) (hA:tri N2 N3 (c.sub b) ≠ 0) (hB:tri N3 N1 (c.sub b) ≠ 0) (hC:tri N1 N2 (c.sub b) ≠ 0) (hs:0 < tri N2 N3 (c.sub b) * tri N3 N1 (c.sub b)):False:=by
 have he:c.sub b ≠ Pt.O:=fun e=>hC (by rw [e];simp [tri,Pt.dot,Pt.O])
 have h:=three_flat he h1.sq h2.sq h3.sq (a3.sub b)
 rw [h3.on,Int.mul_zero,Int.add_zero] at h
 obtain ⟨x,y⟩:=both_nought hA hB hs (h1.le _ h3.mem) (h2.le _ h3.mem) h
 have hsq:=h1.sq
 apply hB
 rcases h3.is with k | k
 ·rw [k,tri_is,hsq,x,Int.zero_mul,Int.zero_mul]
  rfl
 ·rw [k,tri_neg,tri_is,hsq,x,Int.zero_mul,Int.zero_mul]
  rfl
theorem no_three {b c N1 N2 N3 a1 a2 a3:Pt} {L:List Pt} (h1:Sd L b c N1 a1) (h2:Sd L b c N2 a2) (h3:Sd L b c N3 a3) (hA:tri N2 N3 (c.sub b) ≠ 0) (hB:tri N3 N1 (c.sub b) ≠ 0) (hC:tri N1 N2 (c.sub b) ≠ 0):False:=by
 rcases two_alike hA hB hC with h | h | h
 ·exact third h1 h2 h3 hA hB hC h
 ·exact third h2 h3 h1 hB hC hA h
 ·exact third h3 h1 h2 hC hA hB h
theorem gcd_line {a b:Pt} (k l:Int) (h1:k * b.x = l * a.x) (h2:k * b.y = l * a.y) (h3:k * b.z = l * a.z):k.natAbs * b.g = l.natAbs * a.g:=by
 unfold Pt.g
 rw [<- Nat.gcd_mul_left,<- Nat.gcd_mul_left,<- Nat.gcd_mul_left,<- Nat.gcd_mul_left,<- Int.natAbs_mul,<- Int.natAbs_mul,<- Int.natAbs_mul,<- Int.natAbs_mul,<- Int.natAbs_mul,<- Int.natAbs_mul,h1,h2,h3]
theorem part_same {x y:Int} {m n:Nat} (hm:0 < m) (hn:0 < n) (dx:(m:Int) ∣ x) (dy:(n:Int) ∣ y) (e:x.natAbs * n = y.natAbs * m) (s:0 <= x * y):x.tdiv m = y.tdiv n:=by
 obtain ⟨u,rfl⟩:=dx
 obtain ⟨v,rfl⟩:=dy
 have hm':(m:Int) ≠ 0:=by omega
 have hn':(n:Int) ≠ 0:=by omega
 rw [Int.mul_tdiv_cancel_left _ hm',Int.mul_tdiv_cancel_left _ hn']
 rw [Int.natAbs_mul,Int.natAbs_mul,Int.natAbs_natCast,Int.natAbs_natCast] at e
 have e2:(m * n) * u.natAbs = (m * n) * v.natAbs:=by
  rw [Nat.mul_right_comm,e,Nat.mul_comm m n,Nat.mul_right_comm]
 have e3:=Nat.eq_of_mul_eq_mul_left (Nat.mul_pos hm hn) e2
 have s2:0 <= u * v:=by
  have s3:(m:Int) * u * (n * v) = ((m:Int) * n) * (u * v):=by grind
  rw [s3] at s
  have hp:(0:Int) < (m:Int) * n:=Int.mul_pos (by omega) (by omega)
  rcases Decidable.em (u * v < 0) with h | h
  ·have:=Int.mul_neg_of_pos_of_neg hp h;omega
  ·omega
 rcases (show u = v \/ u = -v by omega) with h | h
 ·exact h
 ·subst h
  have:v * v <= 0:=by rw [Int.neg_mul] at s2;omega
  have h0:v = 0:=(sq_zero (x:=v) (y:=0) (z:=0) (by have:=(show (0:Int) <= v * v from by rcases Int.le_total 0 v with h | h;exact Int.mul_nonneg h h;have:=Int.mul_nonneg (a:=-v) (b:=-v) (by omega) (by omega);rwa [Int.neg_mul_neg] at this);omega)).1
  omega
theorem g_pos {p:Pt} (h:p ≠ Pt.O):0 < p.g:=by
 rcases Nat.eq_zero_or_pos p.g with h0 | h0
 ·exfalso
  unfold Pt.g at h0
  rw [Nat.gcd_eq_zero_iff,Nat.gcd_eq_zero_iff] at h0
  apply h
  cases p
  simp only [Pt.O,Pt.mk.injEq] at *
  omega
 ·exact h0
theorem g_dvdZ (p:Pt):(p.g:Int) ∣ p.x/\(p.g:Int) ∣ p.y/\(p.g:Int) ∣ p.z:=by
 have h1:p.g ∣ p.x.natAbs:=Nat.dvd_trans (Nat.gcd_dvd_left _ _) (Nat.gcd_dvd_left _ _)
 have h2:p.g ∣ p.y.natAbs:=Nat.dvd_trans (Nat.gcd_dvd_left _ _) (Nat.gcd_dvd_right _ _)
 have h3:p.g ∣ p.z.natAbs:=Nat.gcd_dvd_right _ _
 exact ⟨Int.dvd_natAbs.1 (Int.natCast_dvd_natCast.2 h1),Int.dvd_natAbs.1 (Int.natCast_dvd_natCast.2 h2),Int.dvd_natAbs.1 (Int.natCast_dvd_natCast.2 h3)⟩
theorem sign_same {a b:Pt} (hb:b ≠ Pt.O) (hd:0 < a.dot b) {s t:Int} (h:s * b.dot b = t * a.dot b):0 <= s * t:=by
 have h0:=self_pos hb
 have h1:0 <= b.dot b:=by
  simp only [Pt.dot]
  have q:∀ t:Int,0 <= t * t:=fun t=>by rcases Int.le_total 0 t with h | h;exact Int.mul_nonneg h h;have:=Int.mul_nonneg (a:=-t) (b:=-t) (by omega) (by omega);rwa [Int.neg_mul_neg] at this
  have:=q b.x
  have:=q b.y
  have:=q b.z
  omega
 rcases Decidable.em (s * t < 0) with h2 | h2
 ·exfalso
  have h3:s * t * b.dot b = t * t * a.dot b:=by
   have:s * t * b.dot b = t * (s * b.dot b):=by grind
   rw [this,h]
   grind
  have h4:s * t * b.dot b < 0:=Int.mul_neg_of_neg_of_pos h2 (by omega)
  have h5:0 <= t * t:=by rcases Int.le_total 0 t with h | h;exact Int.mul_nonneg h h;have:=Int.mul_nonneg (a:=-t) (b:=-t) (by omega) (by omega);rwa [Int.neg_mul_neg] at this
  have h6:=Int.mul_nonneg h5 (Int.le_of_lt hd)
  omega
 ·omega
theorem low_same {a b:Pt} (ha:a ≠ Pt.O) (hb:b ≠ Pt.O) (h:a.cross b = Pt.O) (hd:0 < a.dot b):a.low = b.low:=by
 have ga:=g_pos ha
 have gb:=g_pos hb
 obtain ⟨a1,a2,a3⟩:=g_dvdZ a
 obtain ⟨b1,b2,b3⟩:=g_dvdZ b
 simp only [Pt.cross,Pt.O,Pt.mk.injEq] at h
 obtain ⟨c1,c2,c3⟩:=h
 have ex:=gcd_line (a:=a) (b:=b) a.x b.x (by grind) (by grind) (by grind)
 have ey:=gcd_line (a:=a) (b:=b) a.y b.y (by grind) (by grind) (by grind)
 have ez:=gcd_line (a:=a) (b:=b) a.z b.z (by grind) (by grind) (by grind)
 have sx:=sign_same hb hd (s:=a.x) (t:=b.x) (by simp only [Pt.dot];grind)
 have sy:=sign_same hb hd (s:=a.y) (t:=b.y) (by simp only [Pt.dot];grind)
 have sz:=sign_same hb hd (s:=a.z) (t:=b.z) (by simp only [Pt.dot];grind)
 unfold Pt.low
 rw [if_neg (by omega),if_neg (by omega)]
 unfold Pt.by
 rw [part_same ga gb a1 b1 ex sx,part_same ga gb a2 b2 ey sy,part_same ga gb a3 b3 ez sz]
theorem short_same {a b:Pt} (ha:a ≠ Pt.O) (hb:b ≠ Pt.O) (h:a.cross b = Pt.O) (hd:0 < a.dot b) (ia:a.inB 4398046511104 = true) (ib:b.inB 4398046511104 = true):a.short = b.short:=by
 unfold Pt.short
 rw [if_pos ia,if_pos ib,low_same ha hb h hd]
theorem flat_of {L:List Pt} {N b:Pt} (hN:N ≠ Pt.O) (h:∀ x ∈ L,N.dot (x.sub b) = 0):flatAll L:=by
 intro p hp q hq r hr s hs
 have h1:N.dot (q.sub p) = 0:=by have:=h p hp;have:=h q hq;simp only [Pt.dot,Pt.sub] at *;grind
 have h2:N.dot (r.sub p) = 0:=by have:=h p hp;have:=h r hr;simp only [Pt.dot,Pt.sub] at *;grind
 have h3:N.dot (s.sub p) = 0:=by have:=h p hp;have:=h s hs;simp only [Pt.dot,Pt.sub] at *;grind
 unfold vol
 generalize q.sub p = u at *
 generalize r.sub p = v at *
 generalize s.sub p = t at *
 have h4:=hang u v t N N
 have h5:tri u v t * N.dot N = 0:=by
  rw [<- h4]
  have e1:u.dot N = 0:=by rw [<- h1];simp only [Pt.dot];grind
  have e2:v.dot N = 0:=by rw [<- h2];simp only [Pt.dot];grind
  have e3:t.dot N = 0:=by rw [<- h3];simp only [Pt.dot];grind
  rw [e1,e2,e3]
  simp
 exact (Int.mul_eq_zero.1 h5).resolve_right (self_pos hN)
theorem apart_tri {L:List Pt} {b c N1 N2 a1 a2:Pt} (h1:Sd L b c N1 a1) (h2:Sd L b c N2 a2) (nf:¬ flatAll L) (he:c.sub b ≠ Pt.O) (i1:N1.inB 4398046511104 = true) (i2:N2.inB 4398046511104 = true) (hne:N1.short ≠ N2.short):tri N1 N2 (c.sub b) ≠ 0:=by
 intro h
 have hx:=same_way he h1.sq h2.sq h
 have hdn:N1.dot N2 ≠ 0:=fun e=>by
  have k:N1.dot N1 * N2.dot N2 = 0:=by
   simp only [Pt.cross,Pt.O,Pt.mk.injEq] at hx
   obtain ⟨c1,c2,c3⟩:=hx
   simp only [Pt.dot] at *
   grind
  rcases Int.mul_eq_zero.1 k with k | k
  ·exact self_pos h1.ne k
  ·exact self_pos h2.ne k
 rcases Int.lt_or_gt_of_ne hdn with hd | hd
 ·apply nf
  refine flat_of (b:=b) h1.ne fun x hxL=>?_
  have l1:=h1.le x hxL
  have l2:=h2.le x hxL
  generalize x.sub b = y at *
  have k:N1.dot N2 * N1.dot y = N1.dot N1 * N2.dot y:=by
   simp only [Pt.cross,Pt.O,Pt.mk.injEq] at hx
   obtain ⟨c1,c2,c3⟩:=hx
   simp only [Pt.dot] at *
   grind
  have k1:0 <= N1.dot N2 * N1.dot y:=by have:=Int.mul_nonneg (a:=-(N1.dot N2)) (b:=-(N1.dot y)) (by omega) (by omega);rwa [Int.neg_mul_neg] at this
  have k2:N1.dot N1 * N2.dot y <= 0:=by
   have q:0 <= N1.dot N1:=by
    simp only [Pt.dot]
    have q:∀ t:Int,0 <= t * t:=fun t=>by rcases Int.le_total 0 t with h | h;exact Int.mul_nonneg h h;have:=Int.mul_nonneg (a:=-t) (b:=-t) (by omega) (by omega);rwa [Int.neg_mul_neg] at this
    have:=q N1.x
    have:=q N1.y
    have:=q N1.z
    omega
   have:=Int.mul_nonneg q (show 0 <= -(N2.dot y) by omega)
   rw [Int.mul_neg] at this
   omega
  exact (Int.mul_eq_zero.1 (show N1.dot N2 * N1.dot y = 0 by omega)).resolve_left hdn
 ·exact hne (short_same h1.ne h2.ne hx hd i1 i2)
theorem tri_turn (a b c:Pt):(c.sub b).cross (a.sub b) = (b.sub a).cross (c.sub a):=by
 simp only [Pt.cross,Pt.sub,Pt.mk.injEq]
 refine ⟨by grind,by grind,by grind⟩
theorem gives_sd {L:List Pt} {a b c q:Pt} (h:Gives L a b c q) (ha:a ∈ L):∃ N,Sd L b c N a/\q = N.short/\(N = (b.sub a).cross (c.sub a) \/ N = ((b.sub a).cross (c.sub a)).neg):=by
 obtain ⟨h1,h2,h3⟩:=h
 have t:=tri_turn a b c
 have e1:((b.sub a).cross (c.sub a)).dot (c.sub b) = 0:=by simp only [Pt.dot,Pt.cross,Pt.sub];grind
 have e2:((b.sub a).cross (c.sub a)).dot (a.sub b) = 0:=by simp only [Pt.dot,Pt.cross,Pt.sub];grind
 have e3:∀ x:Pt,((b.sub a).cross (c.sub a)).dot (x.sub b) = ((b.sub a).cross (c.sub a)).dot (x.sub a):=fun x=>by simp only [Pt.dot,Pt.cross,Pt.sub];grind
 have ng:∀ p q:Pt,p.neg.dot q = -(p.dot q):=fun p q=>by simp only [Pt.dot,Pt.neg];grind
 have nO:∀ p:Pt,p ≠ Pt.O->p.neg ≠ Pt.O:=fun p hp e=>hp (by cases p;simp only [Pt.neg,Pt.O,Pt.mk.injEq] at *;omega)
 cases ha2:above L ((b.sub a).cross (c.sub a)) a with
 | true =>
  rw [ha2] at h3 h2
  have hb:below L ((b.sub a).cross (c.sub a)) a = false:=by
   cases hb:below L ((b.sub a).cross (c.sub a)) a with
   | false=>rfl
   | true=>exact absurd ⟨rfl,hb⟩ h2
  unfold below at hb
  rw [List.any_eq_false] at hb
  refine ⟨((b.sub a).cross (c.sub a)).neg,⟨nO _ h1,by rw [ng,e1];rfl,fun x hx=>?_,ha,by rw [ng,e2];rfl,Or.inr (by rw [t])⟩,h3,Or.inr rfl⟩
  have:=hb x hx
  simp only [decide_eq_true_eq] at this
  rw [ng,e3]
  omega
 | false =>
  rw [ha2] at h3
  unfold above at ha2
  rw [List.any_eq_false] at ha2
  refine ⟨(b.sub a).cross (c.sub a),⟨h1,e1,fun x hx=>?_,ha,e2,Or.inl t.symm⟩,h3,Or.inl rfl⟩
  have:=ha2 x hx
  simp only [decide_eq_true_eq] at this
  rw [e3]
  omega
theorem outer_inv (L:List Pt) (I:List Pt × List Pt->Prop) (st:∀ a b c s,List.Sublist [a,b,c] L->I s->I (triP L a b c s)):∀ (M:List Pt) (s:List Pt × List Pt),List.Sublist M L->I s->I (outerP L M s)
 | [],s,_,h=>h
 | a :: r,s,hs,h=>by
  have inner:∀ (b:Pt) (M:List Pt) (s:List Pt × List Pt),(∀ c ∈ M,List.Sublist [a,b,c] L)->I s->I (innerP L a b M s):=by
   intro b M
   induction M with
   | nil=>intro s _ h;exact h
   | cons c r ih=>intro s hc h;exact ih _ (fun c hc'=>hc c (List.mem_cons_of_mem _ hc')) (st a b c s (hc c List.mem_cons_self) h)
  have mid:∀ (M:List Pt) (s:List Pt × List Pt),List.Sublist (a :: M) L->I s->I (midP L a M s):=by
   intro M
   induction M with
   | nil=>intro s _ h;exact h
   | cons b r ih =>
    intro s hM h
    refine ih _ (List.Sublist.trans ?_ hM) (inner b r s (fun c hc=>List.Sublist.trans ?_ hM) h)
    ·exact List.Sublist.cons_cons _ (List.sublist_cons_self _ _)
    ·exact List.Sublist.cons_cons _ (List.Sublist.cons_cons _ (List.singleton_sublist.2 hc))
  exact outer_inv L I st r _ (List.Sublist.trans (List.sublist_cons_self _ _) hs) (mid r s hs h)
theorem axis_nodup {A:List Pt} {n:Pt} (h:A.Nodup):(withAxisP A n).Nodup:=by
 unfold withAxisP
 split
 ·exact h
 ·next hn=>exact List.nodup_append.2 ⟨h,by simp,fun x hx y hy e=>by simp at hy;subst hy;subst e;exact hn hx⟩
def Eds (L E:List Pt):Prop:=E.Nodup/\∀ e ∈ E,∃ p ∈ pairsL L,e = (p.2.sub p.1).short
theorem edge_eds {L E:List Pt} {a b:Pt} (h:Eds L E) (hs:List.Sublist [a,b] L):Eds L (withEdgeP E (b.sub a)):=by
 unfold withEdgeP
 split
 ·exact h
 ·next hn =>
  rw [not_or] at hn
  refine ⟨List.nodup_append.2 ⟨h.1,by simp,fun x hx y hy e=>by simp at hy;subst hy;subst e;exact hn.1 hx⟩,fun e he=>?_⟩
  rcases List.mem_append.1 he with he | he
  ·exact h.2 e he
  ·simp at he
   exact ⟨(a,b),pairs_mem hs,he⟩
theorem sides_eds (L:List Pt):(sidesP L).1.Nodup/\Eds L (sidesP L).2:=by
 unfold sidesP
 refine outer_inv L (fun s=>s.1.Nodup/\Eds L s.2) ?_ L _ (List.Sublist.refl _) ⟨by simp,by simp [Eds]⟩
 intro a b c s hs h
 unfold triP
 dsimp only
 split
 ·exact h
 ·refine ⟨axis_nodup h.1,?_⟩
  have s1:List.Sublist [a,b] L:=List.Sublist.trans (by simp) hs
  have s2:List.Sublist [a,c] L:=List.Sublist.trans (List.Sublist.cons_cons _ (List.Sublist.cons _ (List.Sublist.refl _))) hs
  have s3:List.Sublist [b,c] L:=List.Sublist.trans (List.Sublist.cons _ (List.Sublist.refl _)) hs
  exact edge_eds (edge_eds (edge_eds h.2 s1) s2) s3
theorem threeOf {α:Type} {M:List α} (h:M.Nodup) (hl:¬ M.length <= 2):∃ x y z,x ∈ M/\y ∈ M/\z ∈ M/\x ≠ y/\x ≠ z/\y ≠ z:=by
 match M,h,hl with
 | [],_,hl=>simp at hl
 | [_],_,hl=>simp at hl
 | [_,_],_,hl=>simp at hl
 | x :: y :: z :: r,h,_ =>
  simp only [List.nodup_cons,List.mem_cons,not_or] at h
  exact ⟨x,y,z,by simp,by simp,by simp,h.1.1,h.1.2.1,h.2.1.1⟩
theorem twoOf {α:Type} {M:List α} (h:M.Nodup) (hl:¬ M.length <= 1):∃ x y,x ∈ M/\y ∈ M/\x ≠ y:=by
 match M,h,hl with
 | [],_,hl=>simp at hl
 | [_],_,hl=>simp at hl
 | x :: y :: r,h,_ =>
  simp only [List.nodup_cons,List.mem_cons,not_or] at h
  exact ⟨x,y,by simp,by simp,h.1.1⟩
theorem pair_tail {a b c x:Pt} {t:List Pt} (h:List.Sublist [a,b,c] (x :: t)):List.Sublist [b,c] t:=by
 rcases List.sublist_cons_iff.1 h with h | ⟨r,e,h⟩
 ·exact List.Sublist.trans (List.sublist_cons_self _ _) h
 ·simp only [List.cons.injEq] at e
  obtain ⟨rfl,rfl⟩:=e
  exact h
open Classical in
theorem axes_count {L:List Pt} (h12:L.length <= 12) (hin:∀ p ∈ L,p.inB 65536 = true) (hnd:L.Nodup) (nf:¬ flatAll L):(sidesP L).1.length <= 110:=by
 cases L with
 | nil=>simp [sidesP,outerP]
 | cons x t =>
  have W:∀ q ∈ (sidesP (x :: t)).1,∃ bc:Pt × Pt,bc ∈ pairsL t/\∃ a N,Sd (x :: t) bc.1 bc.2 N a/\q = N.short/\N.inB 4398046511104 = true/\bc.2.sub bc.1 ≠ Pt.O:=by
   intro q hq
   obtain ⟨a,b,c,hs,g⟩:=mem_sides.1 hq
   have ma:a ∈ x :: t:=hs.subset (by simp)
   have mb:b ∈ x :: t:=hs.subset (by simp)
   have mc:c ∈ x :: t:=hs.subset (by simp)
   obtain ⟨N,hN,e,hc⟩:=gives_sd g ma
   refine ⟨(b,c),pairs_mem (pair_tail hs),a,N,hN,e,?_,?_⟩
   ·have ia:=(Pt.inB_iff _ _).1 (hin a ma)
    have ib:=(Pt.inB_iff _ _).1 (hin b mb)
    have ic:=(Pt.inB_iff _ _).1 (hin c mc)
    have k:((b.sub a).cross (c.sub a)).inB 34359738368 = true:=by
     rw [Pt.inB_iff]
     simp only [Pt.cross,Pt.sub]
     have p1:-131072 <= b.x - a.x/\b.x - a.x <= 131072:=by omega
     have p2:-131072 <= b.y - a.y/\b.y - a.y <= 131072:=by omega
     have p3:-131072 <= b.z - a.z/\b.z - a.z <= 131072:=by omega
     have p4:-131072 <= c.x - a.x/\c.x - a.x <= 131072:=by omega
     have p5:-131072 <= c.y - a.y/\c.y - a.y <= 131072:=by omega
     have p6:-131072 <= c.z - a.z/\c.z - a.z <= 131072:=by omega
     have m1:=mul_in p2 p6
     have m2:=mul_in p3 p5
     have m3:=mul_in p3 p4
     have m4:=mul_in p1 p6
     have m5:=mul_in p1 p5
     have m6:=mul_in p2 p4
     omega
    rcases hc with rfl | rfl
    ·exact inB_mono k (by decide)
    ·rw [Pt.inB_iff] at k ⊢
     simp only [Pt.neg]
     omega
   ·intro e9
    exact g.1 (by
     have:(c.sub b).cross (a.sub b) = Pt.O:=by show (Pt.cross (c.sub b) _) = _;rw [show c.sub b = Pt.O from e9];simp [Pt.cross,Pt.O]
     rw [<- tri_turn];exact this)
  let f:Pt->Pt × Pt:=fun q=>if h:∃ bc:Pt × Pt,bc ∈ pairsL t/\∃ a N,Sd (x :: t) bc.1 bc.2 N a/\q = N.short/\N.inB 4398046511104 = true/\bc.2.sub bc.1 ≠ Pt.O then Classical.choose h else (Pt.O,Pt.O)
  have hf:∀ q ∈ (sidesP (x :: t)).1,f q ∈ pairsL t/\∃ a N,Sd (x :: t) (f q).1 (f q).2 N a/\q = N.short/\N.inB 4398046511104 = true/\(f q).2.sub (f q).1 ≠ Pt.O:=by
   intro q hq
   have h:=W q hq
   have e:f q = Classical.choose h:=by simp only [f,dif_pos h]
   rw [e]
   exact Classical.choose_spec h
  have hk:=fiber_le f 2 (pairsL t) (sidesP (x :: t)).1 (fun q hq=>(hf q hq).1) (fun bc _=>by
   by_cases hl:((sidesP (x :: t)).1.filter (fun q=>decide (f q = bc))).length <= 2
   ·exact hl
   ·exfalso
    obtain ⟨q1,q2,q3,m1,m2,m3,n12,n13,n23⟩:=threeOf (List.Pairwise.filter _ (sides_eds (x :: t)).1) hl
    rw [List.mem_filter] at m1 m2 m3
    have e1:=of_decide_eq_true m1.2
    have e2:=of_decide_eq_true m2.2
    have e3:=of_decide_eq_true m3.2
    obtain ⟨_,a1,N1,s1,z1,i1,ne⟩:=hf q1 m1.1
    obtain ⟨_,a2,N2,s2,z2,i2,_⟩:=hf q2 m2.1
    obtain ⟨_,a3,N3,s3,z3,i3,_⟩:=hf q3 m3.1
    rw [e1] at s1 ne
    rw [e2] at s2
    rw [e3] at s3
    exact no_three s1 s2 s3 (apart_tri s2 s3 nf ne i2 i3 (by rw [<- z2,<- z3];exact n23)) (apart_tri s3 s1 nf ne i3 i1 (by rw [<- z3,<- z1];exact Ne.symm n13)) (apart_tri s1 s2 nf ne i1 i2 (by rw [<- z1,<- z2];exact n12)))
  have:=pairs_55 (L:=t) (by simp at h12;omega)
  omega
open Classical in
theorem edges_count {L:List Pt} (h12:L.length <= 12):(sidesP L).2.length <= 66:=by
 obtain ⟨hn,hw⟩:=(sides_eds L).2
 let f:Pt->Pt × Pt:=fun q=>if h:∃ p ∈ pairsL L,q = (p.2.sub p.1).short then Classical.choose h else (Pt.O,Pt.O)
 have hf:∀ q ∈ (sidesP L).2,f q ∈ pairsL L/\q = ((f q).2.sub (f q).1).short:=by
  intro q hq
  have h:=hw q hq
  have e:f q = Classical.choose h:=by simp only [f,dif_pos h]
  rw [e]
  exact Classical.choose_spec h
 have hk:=fiber_le f 1 (pairsL L) (sidesP L).2 (fun q hq=>(hf q hq).1) (fun bc _=>by
  by_cases hl:((sidesP L).2.filter (fun q=>decide (f q = bc))).length <= 1
  ·exact hl
  ·exfalso
   obtain ⟨q1,q2,m1,m2,n12⟩:=twoOf (List.Pairwise.filter _ hn) hl
   rw [List.mem_filter] at m1 m2
   have e1:=of_decide_eq_true m1.2
   have e2:=of_decide_eq_true m2.2
   exact n12 ((hf q1 m1.1).2.trans (by rw [e1,<- e2];exact (hf q2 m2.1).2.symm)))
 have:=pairs_66 h12
 omega
end
section
open Go.RowKit Go.Shelf
theorem dirs_len (m:M9) (A:List Pt):(m.dirs A).length <= A.length:=by
 unfold M9.dirs
 have:=List.length_filter_le (fun p=>decide (p ≠ Pt.O)) (A.map m.dirV)
 rw [List.length_map] at this
 exact this
theorem dirs_in (m:M9) (A:List Pt):∀ p ∈ m.dirs A,p.inB 1048576 = true:=by
 intro p hp
 unfold M9.dirs at hp
 rw [List.mem_filter,List.mem_map] at hp
 obtain ⟨⟨x,_,rfl⟩,_⟩:=hp
 exact short_in _
theorem nodup_ne {L:List Pt} (h2:2 <= L.length) (h:L.Nodup):pt L 0 ≠ pt L 1:=by
 match L,h2,h with
 | a :: b :: r,_,h =>
  intro e
  have e2:a = b:=e
  subst e2
  simp at h
theorem good_few {s:Sh} (h:Good s):(axesP s).length <= 110/\(edgesP s).length <= 66:=by
 unfold axesP edgesP
 by_cases h3:s.kind = 3
 ·have h2:¬ s.kind = 2:=by omega
  rw [if_pos h3,if_neg h2,if_pos h3]
  exact ⟨by decide,by decide⟩
 ·rw [if_neg h3]
  by_cases h4:s.kind = 4
  ·have h2:¬ s.kind = 2:=by omega
   rw [if_pos h4,if_neg h2,if_neg h3,if_pos h4]
   have hk:=h.ok
   unfold checkP at hk
   cases hf:formP s with
   | false=>rw [hf] at hk;simp at hk
   | true =>
    rw [hf] at hk
    obtain ⟨l4,l12,hin,hnd⟩:=may_parts (form_hull hf h4)
    have nf:¬ flatAll s.pts:=by
     intro hfl
     have hne:=nodup_ne (by omega) hnd
     have:=(flatP_iff (by omega) hne).2 hfl
     simp [h4,this] at hk
    exact ⟨axes_count l12 hin hnd nf,edges_count l12⟩
  ·rw [if_neg h4]
   refine ⟨by simp,?_⟩
   rw [if_neg h3,if_neg h4]
   split <;> simp
theorem came_may {s:Sh} {t:Pt} {q:Q4} {P2 A2 E2:List Pt} (h:Good s) (hc:Came t q (ptsP s) (axesP s) (edgesP s) P2 A2 E2):mayC ⟨P2,A2,E2,s.radius⟩ = true:=by
 obtain ⟨f1,f2⟩:=good_few h
 have g1:=gd_len h
 have g2:=gd_pts h
 have a1:A2.length <= 128:=by rw [hc.a];have:=dirs_len (rowsM q) (axesP s);omega
 have e1:E2.length <= 128:=by rw [hc.e];have:=dirs_len (rowsM q) (edgesP s);omega
 have a2:∀ p ∈ A2,p.inB 1048576 = true:=by rw [hc.a];exact dirs_in _ _
 have e2:∀ p ∈ E2,p.inB 1048576 = true:=by rw [hc.e];exact dirs_in _ _
 have p2:∀ p ∈ P2,p.inB 16777216 = true:=fun p hp=>inB_mono (hc.near p hp) (by decide)
 have l1:=hc.len
 have r1:=h.r
 unfold mayC
 simp only [Bool.and_eq_true,decide_eq_true_eq,List.all_eq_true]
 exact ⟨⟨⟨⟨by omega,p2⟩,a1,a2⟩,e1,e2⟩,by omega⟩
def mayN (c:Cr):Prop:=mayC c = true/\c.P.length <= 12/\∀ p ∈ c.P,p.inB 8388608 = true
theorem came_near {s:Sh} {t:Pt} {q:Q4} {P2 A2 E2:List Pt} (h:Good s) (hc:Came t q (ptsP s) (axesP s) (edgesP s) P2 A2 E2):mayN ⟨P2,A2,E2,s.radius⟩:=
 ⟨came_may h hc,by have:=gd_len h;have:=hc.len;show P2.length <= 12;omega,hc.near⟩
theorem rplace_right (t:Pt) (q:Q4) (ht:t.inB 5497558138880 = true) (hw:WM.Whole q.w q.x q.y q.z) (P A E:List Pt) (h0:0 < P.length) (hP:∀ p ∈ P,p.inB 65536 = true) (hA:∀ p ∈ A,p ≠ Pt.O/\p.short = p) (hE:∀ p ∈ E,p ≠ Pt.O/\p.short = p) (nP:P.length < 1099511627776) (nA:A.length < 1099511627776) (nE:E.length < 1099511627776)
  (r:Int) (o o2 o3:Option Addr) (c c2 c3:Nat) (W:World) (l1:Lies W (.slice o P.length c) P) (l2:Lies W (.slice o2 A.length c2) A) (l3:Lies W (.slice o3 E.length c3) E) :
  Calls Tryz.prog 22 #[.agg #[.slice o P.length c,.slice o2 A.length c2,.slice o3 E.length c3,.int .i64 r],poseV t q] W fun e W'=>∃ (P2 A2 E2:List Pt) (vp va ve:Value),e = .returned (.tuple #[.agg #[vp,va,ve,.int .i64 r],.bool true])/\Three W W' vp va ve P2 A2 E2/\Came t q P A E P2 A2 E2:=by
 have hc:=rplace_any t q P A E r _ _ _ W l1 l2 l3 nP nA nE
 rw [place_ok hw ht h0 hP (fun p hp=>(short_g (hA p hp).1 (hA p hp).2).2) (fun p hp=>(short_g (hE p hp).1 (hE p hp).2).2)] at hc
 refine Calls.mono hc ?_
 rintro e W' ⟨vp,va,ve,_,h⟩
 obtain ⟨rfl,h3⟩:=h rfl
 refine ⟨_,_,_,vp,va,ve,rfl,h3,rfl,rfl,rfl,List.length_map _,fun p hp=>?_⟩
 obtain ⟨x,hx,rfl⟩:=List.mem_map.1 hp
 obtain ⟨_,_,_,_,_,e9⟩:=point_some (rows_fit hw).2 ht (hP x hx)
 exact e9
end
section
open Go.RowKit Go.Shelf
theorem placed_any (k rr x y z:Int) (pv:Value) (Ls:List Pt) (y0 y1 y2 y3 y4 y5 y6:Int) (w0:World) (bk:-9223372036854775808 <= k/\k <= 9223372036854775807) (br:-9223372036854775808 <= rr/\rr <= 9223372036854775807) (bx:-9223372036854775808 <= x/\x <= 9223372036854775807) (by_:-9223372036854775808 <= y/\y <= 9223372036854775807) (bz:-9223372036854775808 <= z/\z <= 9223372036854775807) (hv:Lies w0 pv Ls) (hfit:∀ p ∈ Ls,p.fits) (bq0:-9223372036854775808 <= y0/\y0 <= 9223372036854775807) (bq1:-9223372036854775808 <= y1/\y1 <= 9223372036854775807) (bq2:-9223372036854775808 <= y2/\y2 <= 9223372036854775807) (bq3:-9223372036854775808 <= y3/\y3 <= 9223372036854775807) (bq4:-9223372036854775808 <= y4/\y4 <= 9223372036854775807) (bq5:-9223372036854775808 <= y5/\y5 <= 9223372036854775807) (bq6:-9223372036854775808 <= y6/\y6 <= 9223372036854775807) :
  Calls Tryz.prog 17 #[.agg #[.int .i64 k,.int .i64 rr,.int .i64 x,.int .i64 y,.int .i64 z,pv],.agg #[.int .i64 y0,.int .i64 y1,.int .i64 y2,.int .i64 y3,.int .i64 y4,.int .i64 y5,.int .i64 y6]] w0 fun e W=>∃ (c:Cr) (vp va ve:Value),e = .returned (.agg #[vp,va,ve,.int .i64 c.r])/\Hid (Three w0 W vp va ve c.P c.A c.E)/\mayN c/\(1 <= c.r/\c.r <= 16384):=by
 have HR:Hid _:=fun w' (h:Below w0.heap.size w0 w')=>right_any k rr x y z pv Ls w' bk br bx by_ bz (hv.below h) hfit
 have HQ:Hid _:=fun w'=>right6_any y0 y1 y2 y3 y4 y5 y6 w' bq0 bq1 bq2 bq3 bq4 bq5 bq6
 clear bk br bx by_ bz bq0 bq1 bq2 bq3 bq4 bq5 bq6 hfit
 obtain ⟨po,pc,rfl,_⟩:=hv.form
 clear hv
 obtain ⟨W1,hW1⟩:∃ W1,W1 = ((w0.alloc (.cells #[.int .i64 k,.int .i64 rr,.int .i64 x,.int .i64 y,.int .i64 z,.slice po Ls.length pc] 26)).alloc (.cells #[.int .i64 y0,.int .i64 y1,.int .i64 y2,.int .i64 y3,.int .i64 y4,.int .i64 y5,.int .i64 y6] 31)).alloc (.cells #[.slice none 0 0,.slice none 0 0,.slice none 0 0,.int .i64 0] 36):=⟨_,rfl⟩
 have B1:Hid (Cells W1 w0.heap.size [.int .i64 k,.int .i64 rr,.int .i64 x,.int .i64 y,.int .i64 z,.slice po Ls.length pc]):=by show Cells _ _ _;rw [hW1];exact ((Cells.new w0 [.int .i64 k,.int .i64 rr,.int .i64 x,.int .i64 y,.int .i64 z,.slice po Ls.length pc] _).step (n_after _ _)).step (n_after _ _)
 have CQ:Hid (Cells W1 (w0.heap.size + 1) [.int .i64 y0,.int .i64 y1,.int .i64 y2,.int .i64 y3,.int .i64 y4,.int .i64 y5,.int .i64 y6]):=by show Cells _ _ _;rw [hW1];have h9:=(Cells.new (w0.alloc (.cells #[.int .i64 k,.int .i64 rr,.int .i64 x,.int .i64 y,.int .i64 z,.slice po Ls.length pc] 26)) [.int .i64 y0,.int .i64 y1,.int .i64 y2,.int .i64 y3,.int .i64 y4,.int .i64 y5,.int .i64 y6] 31).step (n_after _ (.cells #[.slice none 0 0,.slice none 0 0,.slice none 0 0,.int .i64 0] 36));rw [World.size_alloc] at h9;exact h9
 have CO:Hid (Cells W1 (w0.heap.size + 1 + 1) [.slice none 0 0,.slice none 0 0,.slice none 0 0,.int .i64 0]):=by show Cells _ _ _;rw [hW1];have h9:=Cells.new ((w0.alloc (.cells #[.int .i64 k,.int .i64 rr,.int .i64 x,.int .i64 y,.int .i64 z,.slice po Ls.length pc] 26)).alloc (.cells #[.int .i64 y0,.int .i64 y1,.int .i64 y2,.int .i64 y3,.int .i64 y4,.int .i64 y5,.int .i64 y6] 31)) [.slice none 0 0,.slice none 0 0,.slice none 0 0,.int .i64 0] 36;rw [World.size_alloc,World.size_alloc] at h9;exact h9
 have HB:Hid (Below w0.heap.size w0 W1):=by show Below _ _ _;rw [hW1];exact b_step (b_step (n_after _ _) (n_after _ _)) (n_after _ _)
 obtain ⟨rb,hrb⟩:∃ b,b = w0.heap.size:=⟨_,rfl⟩
 obtain ⟨qb,hqb⟩:∃ b,b = w0.heap.size + 1:=⟨_,rfl⟩
 obtain ⟨ob,hob⟩:∃ b,b = w0.heap.size + 1 + 1:=⟨_,rfl⟩
 rw [<- hob] at CO
 rw [<- hqb] at CQ
 rw [<- hrb] at B1
 have hob0:w0.heap.size <= ob:=by omega
 go_enter Tryz.func17,Tryz.ntmps17
 go_upto_region 1 with fail
 rw [<- hW1,<- hob,<- hqb,<- hrb]
 clear hW1 hrb hqb hob
 obtain ⟨x0,x1,x2,x3,x4,x5⟩:_/\_/\_/\_/\_/\_:=⟨(B1.out 0 _ rfl).1,(B1.out 1 _ rfl).1,(B1.out 2 _ rfl).1,(B1.out 3 _ rfl).1,(B1.out 4 _ rfl).1,(B1.out 5 _ rfl).1⟩
 go_wp2_with (fail)
 refine Calls.mono (HR.out _ HB.out) ?_
 rintro e V1 ⟨sh,u,rfl,hrow,hgd,_⟩
 have hb:=hrow.below
 have HC:Hid _:=rcore_any sh u V1 hrow.lies
 have CQ:Hid _:=Cells.step CQ.out hb
 have CO:Hid _:=Cells.step CO.out hb
 have HB:Hid _:=b_step HB.out hb
 have HGD:Hid _:=hgd
 clear hb x0 x1 x2 x3 x4 x5 B1 HR hrow hgd
 unfold Sh.v at HC
 go_wp2_with (fail)
 refine Calls.mono HC.out ?_
 rintro e V2 ⟨vp,va,ve,_,hok⟩
 obtain ⟨rfl,h3⟩:=hok HGD.out.ok
 have hb:=h3.below
 have CQ:Hid _:=Cells.step CQ.out hb
 have CO:Hid _:=Cells.step CO.out hb
 have HB:Hid _:=b_step HB.out hb
 obtain ⟨op,cp,rfl⟩:=rowp_form h3.rp
 obtain ⟨oa,ca,rfl⟩:=rowp_form h3.ra
 obtain ⟨oe,ce,rfl⟩:=rowp_form h3.re
 have LP:Hid _:=Lies.of_row h3.rp
 have LA:Hid _:=Lies.of_row h3.ra
 have LE:Hid _:=Lies.of_row h3.re
 clear hb h3 HC hok
 have HPn:Hid _:=gd_pts HGD.out
 have HPi:Hid _:=gd_in HGD.out
 have HAt:Hid (∀ p ∈ axesP sh,p ≠ Pt.O/\p.short = p):=(gd_axes HGD.out).1
 have HEt:Hid (∀ p ∈ edgesP sh,p ≠ Pt.O/\p.short = p):=(gd_edges HGD.out).1
 have HAl:Hid _:=gd_alen HGD.out
 have hPl:(ptsP sh).length < 1099511627776:=by have:=gd_len HGD.out;omega
 have HMY:Hid (∀ t q P2 A2 E2,Came t q (ptsP sh) (axesP sh) (edgesP sh) P2 A2 E2->mayN ⟨P2,A2,E2,sh.radius⟩):=fun t q P2 A2 E2 h=>came_near HGD.out h
 have HRR:Hid (1 <= sh.radius/\sh.radius <= 16384):=HGD.out.r
 generalize ptsP sh = Ps at *
 generalize axesP sh = As at *
 generalize edgesP sh = Es at *
 generalize sh.radius = sr at *
 clear HGD
 obtain ⟨X,hX⟩:∃ V,V = V2.alloc (.cells #[.slice op Ps.length cp,.slice oa As.length ca,.slice oe Es.length ce,.int .i64 sr] 36):=⟨_,rfl⟩
 obtain ⟨b4,hb4⟩:∃ b,b = V2.heap.size:=⟨_,rfl⟩
 have hbx:Below V2.heap.size V2 X:=by rw [hX];exact n_after _ _
 have CC:Hid (Cells X b4 [.slice op Ps.length cp,.slice oa As.length ca,.slice oe Es.length ce,.int .i64 sr]):=by show Cells _ _ _;rw [hX,hb4];exact Cells.new _ _ _
 go_upto_region 2 with fail
 rw [<- hX,<- hb4]
 have CQ:Hid _:=Cells.step CQ.out hbx
 have CO:Hid _:=Cells.step CO.out hbx
 have HB:Hid _:=b_step HB.out hbx
 have LP:Hid _:=LP.out.below hbx
 have LA:Hid _:=LA.out.below hbx
 have LE:Hid _:=LE.out.below hbx
 have hol:ob < X.heap.size:=Cells.lt CO.out
 clear hX hb4 hbx
 go_cut [7] from 15 to 21 (fun s7 wx=>∃ (P2 A2 E2:List Pt) (vp va ve:Value) (t:Pt) (q:Q4) (b8:Nat),s7 = .pointer (some ⟨b8,0,none⟩)/\Three X wx vp va ve P2 A2 E2/\Came t q Ps As Es P2 A2 E2/\Cells wx b8 [vp,va,ve,.int .i64 sr]/\Below X.heap.size X wx)
 case first =>
   refine RV.region_by2 (fun j v w=>match j with | 0=>v = .agg #[.slice op Ps.length cp,.slice oa As.length ca,.slice oe Es.length ce,.int .i64 sr] | 1=>v = .agg #[.int .i64 y0,.int .i64 y1,.int .i64 y2,.int .i64 y3,.int .i64 y4,.int .i64 y5,.int .i64 y6] | 2=>(fun v w=>∃ (t:Pt) (q:Q4),v = poseV t q/\t.inB 4398046511104 = true/\WM.Whole q.w q.x q.y q.z) v w | 3=>True | 4=>True | 5=>True | 6=>v = .bool true | 7=>True | 8=>True | 9=>v = .bool true | _=>True) (fun γ L w=>SG X sr Ps As Es (γ 2) (γ 3) (γ 4) (γ 5) (γ 7) (L 2) (L 3) (L 4) (L 5) (L 7) (L 8) w) (by kernel_rfl) (by kernel_rfl) (by kernel_rfl) (by kernel_rfl) ?_ ?_ ?_
   ·have b9:Below X.heap.size X X.drew:=(Below.refl _ _).drew;exact ⟨b9,(fun e=>by cases e),(fun e=>by cases e),(fun e=>by cases e),(fun e=>by cases e)⟩
   ·generalize hD:dstOf _ = D
    generalize hWA:waitsFor _ = WA
    generalize hZ:Act.mk _ _ = Z
    refine RV.AllDo.name ?_
    intro R hR
    have kn:RV.Kn R [.some (.agg #[.slice op Ps.length cp,.slice oa As.length ca,.slice oe Es.length ce,.int .i64 sr]),.some (.agg #[.int .i64 y0,.int .i64 y1,.int .i64 y2,.int .i64 y3,.int .i64 y4,.int .i64 y5,.int .i64 y6]),none,none,none,none,.some (.bool true),none,none,.some (.bool true)] 0:=by rw [hR];exact ⟨fun _ _=>Iff.rfl,fun _ _=>Iff.rfl,fun _ _=>Iff.rfl,fun _ _=>Iff.rfl,trivial⟩
    have T:=RV.kfacts [17,18,19,20,16,21,22,8,0,9] [(3,.pointer (some ⟨qb,0,none⟩)),(5,.pointer (some ⟨b4,0,none⟩))] hD hZ kn ⟨rfl,rfl,trivial⟩ (by kernel_rfl) (by kernel_rfl)
    simp only [RV.Outs,RV.Slots,Nat.reduceAdd] at T
    have r2:∀ v w,R 2 v w = ((fun v w=>∃ (t:Pt) (q:Q4),v = poseV t q/\t.inB 4398046511104 = true/\WM.Whole q.w q.x q.y q.z) v w):=fun v w=>by rw [hR];rfl
    have r3:∀ v w,R 3 v w = (True):=fun v w=>by rw [hR];rfl
    have r4:∀ v w,R 4 v w = (True):=fun v w=>by rw [hR];rfl
    have r5:∀ v w,R 5 v w = (True):=fun v w=>by rw [hR];rfl
    have r7:∀ v w,R 7 v w = (True):=fun v w=>by rw [hR];rfl
    have r8:∀ v w,R 8 v w = (True):=fun v w=>by rw [hR];rfl
    have K:∀ j v w w',R j v w->R j v w':=by rw [hR];intro j v w w' h;exact h
    iterate 2 first
     | (refine RV.cc _ (RV.pk kn T (fun γ v L w hl h=>by rw [RV.upd_ne γ (i:=_) (j:=2) _ (by decide),RV.upd_ne γ (i:=_) (j:=3) _ (by decide),RV.upd_ne γ (i:=_) (j:=4) _ (by decide),RV.upd_ne γ (i:=_) (j:=5) _ (by decide),RV.upd_ne γ (i:=_) (j:=7) _ (by decide),RV.mn (L:=L) (i:=_) (j:=2) (by decide),RV.mn (L:=L) (i:=_) (j:=3) (by decide),RV.mn (L:=L) (i:=_) (j:=4) (by decide),RV.mn (L:=L) (i:=_) (j:=5) (by decide),RV.mn (L:=L) (i:=_) (j:=7) (by decide),RV.mn (L:=L) (i:=_) (j:=8) (by decide)];exact h) (fun γ L a w hH hl h9 k9=>⟨_,?_,rfl⟩)) ?_;· have wz0:=(Cells.step CC.out hH.glob.be 0 _ rfl).1;have wz1:=(Cells.step CC.out hH.glob.be 1 _ rfl).1;have wz2:=(Cells.step CC.out hH.glob.be 2 _ rfl).1;have wz3:=(Cells.step CC.out hH.glob.be 3 _ rfl).1;simp [execOp,go_sem,h9,wz0,wz1,wz2,wz3])
     | (refine RV.cc _ (RV.pk kn T (fun γ v L w hl h=>by rw [RV.upd_ne γ (i:=_) (j:=2) _ (by decide),RV.upd_ne γ (i:=_) (j:=3) _ (by decide),RV.upd_ne γ (i:=_) (j:=4) _ (by decide),RV.upd_ne γ (i:=_) (j:=5) _ (by decide),RV.upd_ne γ (i:=_) (j:=7) _ (by decide),RV.mn (L:=L) (i:=_) (j:=2) (by decide),RV.mn (L:=L) (i:=_) (j:=3) (by decide),RV.mn (L:=L) (i:=_) (j:=4) (by decide),RV.mn (L:=L) (i:=_) (j:=5) (by decide),RV.mn (L:=L) (i:=_) (j:=7) (by decide),RV.mn (L:=L) (i:=_) (j:=8) (by decide)];exact h) (fun γ L a w hH hl h9 k9=>⟨_,?_,rfl⟩)) ?_;· have wz0:=(Cells.step CQ.out hH.glob.be 0 _ rfl).1;have wz1:=(Cells.step CQ.out hH.glob.be 1 _ rfl).1;have wz2:=(Cells.step CQ.out hH.glob.be 2 _ rfl).1;have wz3:=(Cells.step CQ.out hH.glob.be 3 _ rfl).1;have wz4:=(Cells.step CQ.out hH.glob.be 4 _ rfl).1;have wz5:=(Cells.step CQ.out hH.glob.be 5 _ rfl).1;have wz6:=(Cells.step CQ.out hH.glob.be 6 _ rfl).1;simp [execOp,go_sem,h9,wz0,wz1,wz2,wz3,wz4,wz5,wz6])
    refine RV.cc _ (RV.dc (fun γ L a w hH hl hA=>by have h9:=T _ _ γ L a w hH;have k9:=hA;simp [Region.binds] at k9;refine ⟨20,#[.agg #[.int .i64 y0,.int .i64 y1,.int .i64 y2,.int .i64 y3,.int .i64 y4,.int .i64 y5,.int .i64 y6]],by simp [go_sem,h9,k9],Calls.mono (HQ.out w) ?_⟩;rintro e w2 ⟨t,q,rfl,ht,hq,hb⟩;refine ⟨_,rfl,(r2 _ _).mpr ⟨t,q,rfl,ht,hq⟩,fun j v _ h=>K j v _ _ h,?_⟩;rw [RV.upd_ne γ (i:=2) (j:=3) _ (by decide),RV.upd_ne γ (i:=2) (j:=4) _ (by decide),RV.upd_ne γ (i:=2) (j:=5) _ (by decide),RV.upd_ne γ (i:=2) (j:=7) _ (by decide),RV.mn (L:=L) (i:=2) (j:=3) (by decide),RV.mn (L:=L) (i:=2) (j:=4) (by decide),RV.mn (L:=L) (i:=2) (j:=5) (by decide),RV.mn (L:=L) (i:=2) (j:=7) (by decide),RV.mn (L:=L) (i:=2) (j:=8) (by decide)];have h9:=hH.glob.step hb;exact ⟨h9.be,h9.t3,h9.m4,h9.m5,h9.pd⟩)) ?_
    refine RV.cc _ (RV.dc (fun γ L a w hH hl hA=>by have h9:=T _ _ γ L a w hH;have k9:=hA;simp [Region.binds] at k9;have l1:L 2 = true:=hA ⟨2,.data⟩ (by simp) rfl;have e1:=hH.slot 2 18 (by rw [<- hD];rfl) l1;have g1:=hH.holds 2 l1;rw [r2] at g1;have h4:L 4 = false:=RV.ny hH (RV.wt (j:=4) (i:=3) hWA (by kernel_rfl)) hl;have h5:L 5 = false:=RV.ny hH (RV.wt (j:=5) (i:=4) hWA (by kernel_rfl)) h4;have h8:L 8 = false:=RV.ny hH (RV.wt (j:=8) (i:=5) hWA (by kernel_rfl)) h5;obtain ⟨t,q,hv1,ht,hq⟩:=g1;rw [hv1] at e1;refine ⟨22,#[.agg #[.slice op Ps.length cp,.slice oa As.length ca,.slice oe Es.length ce,.int .i64 sr],poseV t q],by simp [go_sem,e1,h9,k9],Calls.mono (rplace_right t q (inB_mono ht (by decide)) hq Ps As Es HPn.out HPi.out HAt.out HEt.out hPl HAl.out.1 HAl.out.2 sr _ _ _ _ _ _ w (LP.out.below hH.glob.be) (LA.out.below hH.glob.be) (LE.out.below hH.glob.be)) ?_⟩;rintro e w2 ⟨Px2,Ax2,Ex2,vp,va,ve,rfl,hT,hC⟩;refine ⟨_,rfl,(r3 _ _).mpr trivial,fun j v _ h=>K j v _ _ h,?_⟩;rw [RV.upd_ne γ (i:=3) (j:=2) _ (by decide),RV.upd_ne γ (i:=3) (j:=4) _ (by decide),RV.upd_ne γ (i:=3) (j:=5) _ (by decide),RV.upd_ne γ (i:=3) (j:=7) _ (by decide),RV.mn (L:=L) (i:=3) (j:=2) (by decide),RV.mn (L:=L) (i:=3) (j:=4) (by decide),RV.mn (L:=L) (i:=3) (j:=5) (by decide),RV.mn (L:=L) (i:=3) (j:=7) (by decide),RV.mn (L:=L) (i:=3) (j:=8) (by decide),RV.upd_self,RV.more_self];exact hH.glob.got h4 h5 h8 hT hC)) ?_
    refine RV.cc _ (RV.does_step (fun γ L a w hH hl hA=>by have l0:L 3 = true:=hA ⟨3,.data⟩ (by simp) rfl;have e0:=hH.slot 3 19 (by rw [<- hD];rfl) l0;exact ⟨γ 3,w,by simp [execOp,go_sem,e0],(r4 _ _).mpr trivial,fun j v _ h=>K j v _ _ h,by rw [RV.upd_ne γ (i:=4) (j:=2) _ (by decide),RV.upd_ne γ (i:=4) (j:=3) _ (by decide),RV.upd_ne γ (i:=4) (j:=5) _ (by decide),RV.upd_ne γ (i:=4) (j:=7) _ (by decide),RV.mn (L:=L) (i:=4) (j:=2) (by decide),RV.mn (L:=L) (i:=4) (j:=3) (by decide),RV.mn (L:=L) (i:=4) (j:=5) (by decide),RV.mn (L:=L) (i:=4) (j:=7) (by decide),RV.mn (L:=L) (i:=4) (j:=8) (by decide),RV.upd_self];exact ⟨hH.glob.be,hH.glob.t3,fun _=>rfl,hH.glob.m5,hH.glob.pd⟩⟩)) ?_
    refine RV.cc _ (RV.does_step (fun γ L a w hH hl hA=>by have l0:L 4 = true:=hA ⟨4,.data⟩ (by simp) rfl;have e0:=hH.slot 4 15 (by rw [<- hD];rfl) l0;have l3:L 3 = true:=hH.closed 4 3 (RV.wt (j:=4) (i:=3) hWA (by kernel_rfl)) l0;obtain ⟨Px2,Ax2,Ex2,vp,va,ve,t,q,x1,x2,x3⟩:=hH.glob.t3 l3;have x4:=hH.glob.m4 l0;rw [x4,x1] at e0;refine ⟨.agg #[vp,va,ve,.int .i64 sr],w,by simp [execOp,go_sem,e0],(r5 _ _).mpr trivial,fun j v _ h=>K j v _ _ h,?_⟩;rw [RV.upd_ne γ (i:=5) (j:=2) _ (by decide),RV.upd_ne γ (i:=5) (j:=3) _ (by decide),RV.upd_ne γ (i:=5) (j:=4) _ (by decide),RV.upd_ne γ (i:=5) (j:=7) _ (by decide),RV.mn (L:=L) (i:=5) (j:=2) (by decide),RV.mn (L:=L) (i:=5) (j:=3) (by decide),RV.mn (L:=L) (i:=5) (j:=4) (by decide),RV.mn (L:=L) (i:=5) (j:=7) (by decide),RV.mn (L:=L) (i:=5) (j:=8) (by decide),RV.upd_self];exact ⟨hH.glob.be,hH.glob.t3,hH.glob.m4,fun _=>by rw [x1];rfl,hH.glob.pd⟩)) ?_
    refine RV.cc _ (RV.does_step (fun γ L a w hH hl hA=>by have l0:L 4 = true:=hA ⟨4,.data⟩ (by simp) rfl;have e0:=hH.slot 4 15 (by rw [<- hD];rfl) l0;have l3:L 3 = true:=hH.closed 4 3 (RV.wt (j:=4) (i:=3) hWA (by kernel_rfl)) l0;obtain ⟨Px2,Ax2,Ex2,vp,va,ve,t,q,x1,x2,x3⟩:=hH.glob.t3 l3;have x4:=hH.glob.m4 l0;rw [x4,x1] at e0;refine ⟨.bool true,w,by simp [execOp,go_sem,e0],((kn.at (k:=6) rfl _ _).2 rfl),fun j v _ h=>K j v _ _ h,?_⟩;rw [RV.upd_ne γ (i:=6) (j:=2) _ (by decide),RV.upd_ne γ (i:=6) (j:=3) _ (by decide),RV.upd_ne γ (i:=6) (j:=4) _ (by decide),RV.upd_ne γ (i:=6) (j:=5) _ (by decide),RV.upd_ne γ (i:=6) (j:=7) _ (by decide),RV.mn (L:=L) (i:=6) (j:=2) (by decide),RV.mn (L:=L) (i:=6) (j:=3) (by decide),RV.mn (L:=L) (i:=6) (j:=4) (by decide),RV.mn (L:=L) (i:=6) (j:=5) (by decide),RV.mn (L:=L) (i:=6) (j:=7) (by decide),RV.mn (L:=L) (i:=6) (j:=8) (by decide)];exact hH.glob)) ?_
    refine RV.cc _ (RV.does_step (fun γ L a w hH hl hA=>by have h8:L 8 = false:=RV.ny hH (RV.wt (j:=8) (i:=7) hWA (by kernel_rfl)) hl;refine ⟨.pointer (some ⟨w.heap.size,0,none⟩),w.alloc (.cells #[.slice none 0 0,.slice none 0 0,.slice none 0 0,.int .i64 0] 36),by simp [execOp,go_sem],(r7 _ _).mpr trivial,fun j v _ h=>K j v _ _ h,?_⟩;rw [RV.upd_ne γ (i:=7) (j:=2) _ (by decide),RV.upd_ne γ (i:=7) (j:=3) _ (by decide),RV.upd_ne γ (i:=7) (j:=4) _ (by decide),RV.upd_ne γ (i:=7) (j:=5) _ (by decide),RV.mn (L:=L) (i:=7) (j:=2) (by decide),RV.mn (L:=L) (i:=7) (j:=3) (by decide),RV.mn (L:=L) (i:=7) (j:=4) (by decide),RV.mn (L:=L) (i:=7) (j:=5) (by decide),RV.mn (L:=L) (i:=7) (j:=8) (by decide),RV.upd_self,RV.more_self];exact hH.glob.made h8)) ?_
    refine RV.cc _ (RV.does_store (fun γ L a w hH hl hA=>by have l0:L 7 = true:=hA ⟨7,.data⟩ (by simp) rfl;have l1:L 5 = true:=hA ⟨5,.data⟩ (by simp) rfl;have e0:=hH.slot 7 7 (by rw [<- hD];rfl) l0;have e1:=hH.slot 5 20 (by rw [<- hD];rfl) l1;have hG:=hH.glob;have m4:L 4 = true:=hH.closed 5 4 (RV.wt (j:=5) (i:=4) hWA (by kernel_rfl)) l1;have m3:L 3 = true:=hH.closed 4 3 (RV.wt (j:=4) (i:=3) hWA (by kernel_rfl)) m4;rw [m3,l0] at hG;obtain ⟨Px2,Ax2,Ex2,vp,va,ve,t,q,x1,x2,x3⟩:=hG.t3 rfl;obtain ⟨b,cs,k1,k2,k3,k4,_⟩:=hG.pd rfl;have x5:=hG.m5 l1;rw [x1] at x5;obtain ⟨o5_,c5_,rfl⟩:=rowp_form x2.rp;obtain ⟨o9_,c9_,rfl⟩:=rowp_form x2.ra;obtain ⟨o13_,c13_,rfl⟩:=rowp_form x2.re;rw [k1] at e0;rw [x5] at e1;have q9:=hG.fill k1 k2 k3 k4 x1;obtain ⟨q0,q1,q2,q3,rfl⟩:=arr4' k4;have wz0:w.cell? ⟨b,0,none⟩ = some q0:=(by simp [World.cell?,k3]);have wz1:w.cell? ⟨b,1,none⟩ = some q1:=(by simp [World.cell?,k3]);have wz2:w.cell? ⟨b,2,none⟩ = some q2:=(by simp [World.cell?,k3]);have wz3:w.cell? ⟨b,3,none⟩ = some q3:=(by simp [World.cell?,k3]);have zf:∀ o,w.frozen? ⟨b,o,none⟩ = false:=fun o=>(by simp [World.frozen?,k3]);refine ⟨_,by simp [execOp,go_sem,e0,e1,cp0,wz0,wz1,wz2,wz3,zf];rfl,(r8 _ _).mpr trivial,fun j v _ h=>K j v _ _ h,?_⟩;rw [RV.upd_ne γ (i:=8) (j:=2) _ (by decide),RV.upd_ne γ (i:=8) (j:=3) _ (by decide),RV.upd_ne γ (i:=8) (j:=4) _ (by decide),RV.upd_ne γ (i:=8) (j:=5) _ (by decide),RV.upd_ne γ (i:=8) (j:=7) _ (by decide),RV.mn (L:=L) (i:=8) (j:=2) (by decide),RV.mn (L:=L) (i:=8) (j:=3) (by decide),RV.mn (L:=L) (i:=8) (j:=4) (by decide),RV.mn (L:=L) (i:=8) (j:=5) (by decide),RV.mn (L:=L) (i:=8) (j:=7) (by decide),RV.more_self,m3,l0];exact q9)) ?_
    (refine RV.cc _ (RV.pk kn T (fun γ v L w hl h=>by rw [RV.upd_ne γ (i:=_) (j:=2) _ (by decide),RV.upd_ne γ (i:=_) (j:=3) _ (by decide),RV.upd_ne γ (i:=_) (j:=4) _ (by decide),RV.upd_ne γ (i:=_) (j:=5) _ (by decide),RV.upd_ne γ (i:=_) (j:=7) _ (by decide),RV.mn (L:=L) (i:=_) (j:=2) (by decide),RV.mn (L:=L) (i:=_) (j:=3) (by decide),RV.mn (L:=L) (i:=_) (j:=4) (by decide),RV.mn (L:=L) (i:=_) (j:=5) (by decide),RV.mn (L:=L) (i:=_) (j:=7) (by decide),RV.mn (L:=L) (i:=_) (j:=8) (by decide)];exact h) (fun γ L a w hH hl h9 k9=>⟨_,?_,rfl⟩)) ?_;· simp [Region.binds] at k9;simp [execOp,go_sem,h9,k9])
    exact RV.AllDo.nil
   ·intro γ a5 w5 L9 hL hLo hH
    have ha:=RV.held_act hH hL (by kernel_rfl) (by kernel_rfl)
    have hG:=hH.glob
    rw [hL 2 (by decide),hL 3 (by decide),hL 4 (by decide),hL 5 (by decide),hL 7 (by decide),hL 8 (by decide)] at hG
    obtain ⟨Px2,Ax2,Ex2,vp,va,ve,t,q,x1,x2,x3⟩:=hG.t3 rfl
    obtain ⟨b8,cs,k1,k2,k3,k4,k5⟩:=hG.pd rfl
    have e6:γ 6 = .bool true:=hH.holds 6 (hL 6 (by decide))
    have e9_:γ 9 = .bool true:=hH.holds 9 (hL 9 (by decide))
    rw [(k5 rfl).2 _ _ _ x1] at k3
    rw [ha]
    clear ha hH hL hLo k5
    simp only [RV.putAll,Act.put,List.setIfInBounds_toArray,List.set_cons_zero,List.set_cons_succ,Nat.zero_add,Nat.reduceAdd]
    rw [k1,e9_,e6]
    have C8:Cells w5 b8 [vp,va,ve,.int .i64 sr]:=fun i v e=>⟨by simp [World.cell?,k3];exact e,by simp [World.frozen?,k3]⟩
    obtain ⟨o5_,c5_,rfl⟩:=rowp_form x2.rp
    obtain ⟨o9_,c9_,rfl⟩:=rowp_form x2.ra
    obtain ⟨o13_,c13_,rfl⟩:=rowp_form x2.re
    have hB5:=hG.be
    clear hG k1 k3 k4 x1
    go_wp2_with (fail)
    go_meet
    case rel=>exact ⟨Px2,Ax2,Ex2,_,_,_,t,q,b8,rfl,x2,x3,C8,hB5⟩
 case rest =>
  obtain ⟨P2,A2,E2,vp,va,ve,t,q,b8,rfl,hT,hC,h8,hbw⟩:=hcut
  have HM:Hid _:=HMY.out _ _ _ _ _ hC
  have CO:Hid _:=Cells.step CO.out hbw
  have hr:∀ {u:Value} {n:Nat} {xs:List Value},wc.ownsRow X.heap.size 23 3 u n xs->u.ownBlock ≠ some ob:=fun h9 e=>by have:=(h9.lt ob e).1;omega
  have HT:Hid _:=(hT.up HB.out).set hob0 (hr hT.rp) (hr hT.ra) (hr hT.re) vp va ve (.int .i64 sr)
  obtain ⟨o7,c7,rfl⟩:=rowp_form hT.rp
  obtain ⟨o8,c8,rfl⟩:=rowp_form hT.ra
  obtain ⟨o9,c9,rfl⟩:=rowp_form hT.re
  obtain ⟨m0,m1,m2,m3⟩:_/\_/\_/\_:=⟨(h8 0 _ rfl).1,(h8 1 _ rfl).1,(h8 2 _ rfl).1,(h8 3 _ rfl).1⟩
  obtain ⟨z0,zf0⟩:=CO.out 0 _ rfl
  obtain ⟨z1,zf1⟩:=CO.out 1 _ rfl
  obtain ⟨z2,zf2⟩:=CO.out 2 _ rfl
  obtain ⟨z3,zf3⟩:=CO.out 3 _ rfl
  unfold set4 at HT
  clear hT hC h8 hbw hr HMY LP LA LE CC CQ HB HQ
  go_wp2_with (fail)
  exact bodyPost_ret (v:=.agg #[.slice o7 P2.length c7,.slice o8 A2.length c8,.slice o9 E2.length c9,.int .i64 sr]) (by simp [results,Tryz.results17,go_sem,z0,z1,z2,z3]) rfl ⟨⟨P2,A2,E2,sr⟩,_,_,_,rfl,HT,HM.out,HRR.out⟩
end
section
open Go.RowKit Go.Shelf
theorem setg (W:World) (b o:Nat) (u:Value):W.grownBy (W.setCell ⟨b,o,none⟩ u) (some b):=⟨rfl,rfl,rfl,by simp [World.setCell],fun k _ hk=>Below.heap_setCell _ _ _ k (fun e=>hk (by rw [e]))⟩
theorem Lies.put {W:World} {v:Value} {Ls:List Pt} (h:Lies W v Ls) {b:Nat} (hne:∀ q n c,v = .slice (some q) n c->Ls ≠ []->q.block ≠ b) (x y z:Value):Lies (((W.setCell ⟨b,0,none⟩ x).setCell ⟨b,1,none⟩ y).setCell ⟨b,2,none⟩ z) v Ls:=
 ((h.grown (setg W b 0 x) hne).grown (setg _ b 1 y) hne).grown (setg _ b 2 z) hne
theorem Cells.put3 {W:World} {b b':Nat} {vs:List Value} (h:Cells W b vs) (hne:b ≠ b') (x y z:Value):Cells (((W.setCell ⟨b',0,none⟩ x).setCell ⟨b',1,none⟩ y).setCell ⟨b',2,none⟩ z) b vs:=((h.apart hne 0 x).apart hne 1 y).apart hne 2 z
theorem Lies.far {W:World} {v:Value} {Ls:List Pt} (h:Lies W v Ls) {b:Nat} (hb:W.heap.size <= b):∀ q n c,v = .slice (some q) n c->Ls ≠ []->q.block ≠ b:=fun q n c e h0 e'=>by
 subst e
 have:=h.lt h0
 omega
theorem own_far {W:World} {base n:Nat} {v:Value} {xs:List Value} (h:W.ownsRow base 23 3 v n xs) {b:Nat} (hb:b < base) {Ls:List Pt}:∀ q k c,v = .slice (some q) k c->Ls ≠ []->q.block ≠ b:=fun q k c e _ e'=>by
 subst e
 have:=(h.lt q.block rfl).1
 omega
end
end Go.Proofs.YtohbjabihdgjhaaGreat
