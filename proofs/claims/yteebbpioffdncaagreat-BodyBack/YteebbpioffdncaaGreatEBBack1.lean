/- Points of one plane; a hull's sides: Jf3 numbers. -/
import Derived.Test.YteebbpioffdncaaGreatEBBack0
import Derived.OneCell
import Derived.WalkMore
set_option maxHeartbeats 4000000
set_option maxRecDepth 100000
set_option linter.unusedVariables false
namespace Go.Proofs.YteebbpioffdncaaGreat
open Go.Calls renaming mono -> JA
open Go.Region renaming binds -> JC
open Go renaming execOp -> JD
open List renaming set_cons_succ -> JF
open List renaming set_cons_zero -> JG
open List renaming setIfInBounds_toArray -> JH
open Tryz
open Go.Value renaming int -> J
open Go.IntKind renaming i64 -> Y
section
theorem Pt.ne_O {n:Pt} (h:n ≠ Pt.O):n.x ≠ 0 \/ n.y ≠ 0 \/ n.z ≠ 0:=by
 cases n with
 | mk a b c =>
  simp only [Pt.O,ne_eq,Pt.mk.injEq] at h
  dsimp only
  omega
theorem Joh {n x y z:Pt} (hn:n ≠ Pt.O) (h1:n.dot x = 0) (h2:n.dot y = 0) (h3:n.dot z = 0):(x.cross y).dot z = 0:=by
 have i1:(x.cross y).dot z * n.x = n.dot x * (y.cross z).x + n.dot y * (z.cross x).x + n.dot z * (x.cross y).x:=by simp only [Pt.dot,Pt.cross];grind
 have i2:(x.cross y).dot z * n.y = n.dot x * (y.cross z).y + n.dot y * (z.cross x).y + n.dot z * (x.cross y).y:=by simp only [Pt.dot,Pt.cross];grind
 have i3:(x.cross y).dot z * n.z = n.dot x * (y.cross z).z + n.dot y * (z.cross x).z + n.dot z * (x.cross y).z:=by simp only [Pt.dot,Pt.cross];grind
 rw [h1,h2,h3] at i1 i2 i3
 simp only [Int.zero_mul,Int.add_zero] at i1 i2 i3
 rcases Pt.ne_O hn with h | h | h
 ·exact (Int.mul_eq_zero.1 i1).resolve_right h
 ·exact (Int.mul_eq_zero.1 i2).resolve_right h
 ·exact (Int.mul_eq_zero.1 i3).resolve_right h
theorem Jlu {u x y:Pt} (hu:u ≠ Pt.O) (h1:u.cross x = Pt.O) (h2:u.cross y = Pt.O):x.cross y = Pt.O:=by
 simp only [Pt.cross,Pt.O,Pt.mk.injEq] at *
 obtain ⟨a1,a2,a3⟩:=h1
 obtain ⟨b1,b2,b3⟩:=h2
 have key:∀ k:Int,(k = u.x \/ k = u.y \/ k = u.z)->k * (x.y * y.z - x.z * y.y) = 0/\k * (x.z * y.x - x.x * y.z) = 0/\k * (x.x * y.y - x.y * y.x) = 0:=by
  intro k hk
  rcases hk with rfl | rfl | rfl
  ·refine ⟨by grind,by grind,by grind⟩
  ·refine ⟨by grind,by grind,by grind⟩
  ·refine ⟨by grind,by grind,by grind⟩
 have:∃ k:Int,k ≠ 0/\(k = u.x \/ k = u.y \/ k = u.z):=by
  rcases Pt.ne_O hu with h | h | h
  ·exact ⟨_,h,Or.inl rfl⟩
  ·exact ⟨_,h,Or.inr (Or.inl rfl)⟩
  ·exact ⟨_,h,Or.inr (Or.inr rfl)⟩
 obtain ⟨k,h0,hk⟩:=this
 obtain ⟨c1,c2,c3⟩:=key k hk
 exact ⟨(Int.mul_eq_zero.1 c1).resolve_left h0,(Int.mul_eq_zero.1 c2).resolve_left h0,(Int.mul_eq_zero.1 c3).resolve_left h0⟩
def vol (p q r s:Pt):Int:=((q.sub p).cross (r.sub p)).dot (s.sub p)
def Jdr (L:List Pt):Bool:=L.all fun c=>L.all fun m=>decide (vol (pt L 0) (pt L 1) c m = 0)
def Jr0 (L:List Pt):Prop:=∀ p ∈ L,∀ q ∈ L,∀ r ∈ L,∀ s ∈ L,vol p q r s = 0
theorem Jud {a b:Pt} (h:a ≠ b):b.sub a ≠ Pt.O:=by
 intro e
 cases a;cases b
 simp only [Pt.sub,Pt.O,Pt.mk.injEq,ne_eq] at *
 omega
theorem Jpf {L:List Pt} (h2:2 <= L.length) (hne:pt L 0 ≠ pt L 1):Jdr L = true ↔ Jr0 L:=by
 have m0:pt L 0 ∈ L:=Jaq (by omega)
 have m1:pt L 1 ∈ L:=Jaq (by omega)
 constructor
 ·intro h
  have hv:∀ c ∈ L,∀ m ∈ L,vol (pt L 0) (pt L 1) c m = 0:=by
   intro c hc m hm
   have:=List.all_eq_true.1 (List.all_eq_true.1 h c hc) m hm
   simpa using this
  generalize pt L 0 = a at *
  generalize pt L 1 = b at *
  have hu:=Jud hne
  intro p hp q hq r hr s hs
  by_cases hc:∃ c ∈ L,(b.sub a).cross (c.sub a) ≠ Pt.O
  ·obtain ⟨c,hc,hn⟩:=hc
   have d:∀ m ∈ L,((b.sub a).cross (c.sub a)).dot (m.sub a) = 0:=fun m hm=>hv c hc m hm
   generalize (b.sub a).cross (c.sub a) = n at *
   have dd:∀ m ∈ L,n.dot (m.sub p) = 0:=by
    intro m hm
    have e1:=d m hm
    have e2:=d p hp
    have:n.dot (m.sub p) = n.dot (m.sub a) - n.dot (p.sub a):=by simp only [Pt.dot,Pt.sub];grind
    rw [this,e1,e2];rfl
   exact Joh hn (dd q hq) (dd r hr) (dd s hs)
  ·have hl:∀ c ∈ L,(b.sub a).cross (c.sub a) = Pt.O:=fun c hcl=>Classical.byContradiction fun e=>hc ⟨c,hcl,e⟩
   have ll:∀ c ∈ L,(b.sub a).cross (c.sub p) = Pt.O:=by
    intro c hcl
    have e1:=hl c hcl
    have e2:=hl p hp
    generalize b.sub a = u at *
    simp only [Pt.cross,Pt.sub,Pt.O,Pt.mk.injEq] at *
    refine ⟨by grind,by grind,by grind⟩
   have:=Jlu hu (ll q hq) (ll r hr)
   unfold vol
   rw [this]
   simp [Pt.dot,Pt.O]
 ·intro h
  refine List.all_eq_true.2 fun c hc=>List.all_eq_true.2 fun m hm=>?_
  simpa using h _ m0 _ m1 c hc m hm
def Jt7 (L:List Pt):Prop:=∀ i k m o,m < k->k < i->i < L.length->o < L.length->vol (pt L m) (pt L k) (pt L i) (pt L o) = 0
theorem Jom {L:List Pt} (h2:2 <= L.length) (hne:pt L 0 ≠ pt L 1):Jt7 L ↔ Jdr L = true:=by
 constructor
 ·intro h
  refine List.all_eq_true.2 fun c hc=>List.all_eq_true.2 fun m hm=>?_
  obtain ⟨i,hi,rfl⟩:=Jdt hc
  obtain ⟨o,ho,rfl⟩:=Jdt hm
  by_cases e0:i = 0
  ·subst e0
   rw [decide_eq_true_eq]
   simp only [vol,Pt.cross,Pt.sub,Pt.dot]
   grind
  ·by_cases e1:i = 1
   ·subst e1
    rw [decide_eq_true_eq]
    simp only [vol,Pt.cross,Pt.sub,Pt.dot]
    grind
   ·simpa using h i 1 0 o (by omega) (by omega) hi ho
 ·intro h i k m o h1 h3 hi ho
  exact (Jpf h2 hne).1 h _ (Jaq (by omega)) _ (Jaq (by omega)) _ (Jaq hi) _ (Jaq ho)
def Ji6 (L:List Pt) (n a:Pt):Bool:=L.any fun m=>decide (0 < n.dot (m.sub a))
def below (L:List Pt) (n a:Pt):Bool:=L.any fun m=>decide (n.dot (m.sub a) < 0)
def Ja8 (A:List Pt) (n:Pt):List Pt:=if n ∈ A then A else A ++ [n]
def Joe (E:List Pt) (e:Pt):List Pt:=if e.short ∈ E \/ e.short.neg ∈ E then E else E ++ [e.short]
def Jnd (E:List Pt) (more:List Pt):List Pt:=more.foldl Joe E
def Jl9 (L:List Pt) (a b c:Pt) (s:List Pt × List Pt):List Pt × List Pt:=
 let n:=(b.sub a).cross (c.sub a)
 if n = Pt.O \/ (Ji6 L n a = true/\below L n a = true) then s
 else (Ja8 s.1 (if Ji6 L n a then n.neg else n).short,Jnd s.2 [b.sub a,c.sub a,c.sub b])
def Jhv (L:List Pt) (a b:Pt):List Pt->List Pt × List Pt->List Pt × List Pt
 | [],s=>s
 | c :: r,s=>Jhv L a b r (Jl9 L a b c s)
def Jj1 (L:List Pt) (a:Pt):List Pt->List Pt × List Pt->List Pt × List Pt
 | [],s=>s
 | b :: r,s=>Jj1 L a r (Jhv L a b r s)
def Jc5 (L:List Pt):List Pt->List Pt × List Pt->List Pt × List Pt
 | [],s=>s
 | a :: r,s=>Jc5 L r (Jj1 L a r s)
def Jdv (L:List Pt):List Pt × List Pt:=Jc5 L L ([],[])
end
section
theorem Jd4 {a b A B:Int} (ha:-A <= a/\a <= A) (hb:-B <= b/\b <= B):-(A * B) <= a * b/\a * b <= A * B:=by
 have h1:=Int.mul_nonneg (show 0 <= A - a by omega) (show 0 <= B - b by omega)
 have h2:=Int.mul_nonneg (show 0 <= A + a by omega) (show 0 <= B + b by omega)
 have h3:=Int.mul_nonneg (show 0 <= A - a by omega) (show 0 <= B + b by omega)
 have h4:=Int.mul_nonneg (show 0 <= A + a by omega) (show 0 <= B - b by omega)
 simp only [Int.mul_add,Int.add_mul,Int.mul_sub,Int.sub_mul] at h1 h2 h3 h4
 omega
theorem Jhj {p q:Pt} (hp:p.inB 131072 = true) (hq:q.inB 131072 = true):(p.cross q).inB 34359738368 = true:=by
 rw [Pt.inB_iff] at *
 unfold Pt.cross
 dsimp only
 obtain ⟨a1,a2,a3⟩:=hp
 obtain ⟨b1,b2,b3⟩:=hq
 have h1:=Jd4 a2 b3
 have h2:=Jd4 a3 b2
 have h3:=Jd4 a3 b1
 have h4:=Jd4 a1 b3
 have h5:=Jd4 a1 b2
 have h6:=Jd4 a2 b1
 omega
theorem Jci {p q:Pt} {m:Int} (hp:p.inB m = true) (hq:q.inB m = true):(p.sub q).inB (2 * m) = true:=by
 rw [Pt.inB_iff] at *
 unfold Pt.sub
 dsimp only
 omega
end
section
open Go.RowKit Go.Shelf
theorem Jlg (n a b:Int) (w:World) :
  Calls Tryz.prog 129 #[J Y n,J Y a,J Y b] w fun e w'=>e = .returned (.bool (decide (a <= n/\n <= b)))/\w' = w:=by
 by_cases h1:a <= n
 ·go_enter func129,ntmps129
  go_wp2
  go_ret
  exact ⟨by simp [h1],rfl⟩
 ·go_enter func129,ntmps129
  go_wp2
  go_ret
  exact ⟨by simp;omega,rfl⟩
theorem Jg6 (p q:Pt) (w:World) (hp:p.inB 1152921504606846976 = true) (hq:q.inB 1152921504606846976 = true) :
  Calls Tryz.prog 134 #[p.v,q.v] w fun e W=>e = .returned (p.sub q).v/\Below w.heap.size w W:=by
 obtain ⟨x,y,z⟩:=p
 obtain ⟨x',y',z'⟩:=q
 rw [Pt.inB_iff] at hp hq
 unfold Pt.v Pt.sub
 dsimp only at *
 go_enter func134,ntmps134
 go_wp2
 exact bodyPost_ret (v:=.agg #[J Y (x - x'),J Y (y - y'),J Y (z - z')]) (by simp [results,results134,go_sem]) rfl ⟨rfl,(((Below.refl _ w).alloc (Nat.le_refl _) _).alloc (by simp) _).alloc (by simp;omega) _⟩
theorem Ja6 {x y A B:Int} (hx:-A <= x/\x <= A) (hy:-B <= y/\y <= B) (h:A * B <= 1152921504606846976):-1152921504606846976 <= x * y/\x * y <= 1152921504606846976:=by
 have:=Jd4 hx hy
 omega
theorem Jsc (p q:Pt) (w:World) (hp:p.inB 34359738368 = true) (hq:q.inB 131072 = true) :
  Calls Tryz.prog 133 #[p.v,q.v] w fun e W=>e = .returned (J Y (p.dot q))/\Below w.heap.size w W:=by
 obtain ⟨x,y,z⟩:=p
 obtain ⟨x',y',z'⟩:=q
 rw [Pt.inB_iff] at hp hq
 unfold Pt.v Pt.dot
 dsimp only at *
 have h1:=Ja6 hp.1 hq.1 (by decide)
 have h2:=Ja6 hp.2.1 hq.2.1 (by decide)
 have h3:=Ja6 hp.2.2 hq.2.2 (by decide)
 clear hp hq
 go_enter func133,ntmps133
 go_wp2
 go_ret
 exact ⟨rfl,((Below.refl _ w).alloc (Nat.le_refl _) _).alloc (by simp) _⟩
theorem Jpc (p q:Pt) (w:World) (hp:p.inB 131072 = true) (hq:q.inB 131072 = true) :
  Calls Tryz.prog 156 #[p.v,q.v] w fun e W=>e = .returned (p.cross q).v/\Below w.heap.size w W:=by
 obtain ⟨x,y,z⟩:=p
 obtain ⟨x',y',z'⟩:=q
 rw [Pt.inB_iff] at hp hq
 unfold Pt.v Pt.cross
 dsimp only at *
 have h1:=Ja6 hp.2.1 hq.2.2 (by decide)
 have h2:=Ja6 hp.2.2 hq.2.1 (by decide)
 have h3:=Ja6 hp.2.2 hq.1 (by decide)
 have h4:=Ja6 hp.1 hq.2.2 (by decide)
 have h5:=Ja6 hp.1 hq.2.1 (by decide)
 have h6:=Ja6 hp.2.1 hq.1 (by decide)
 clear hp hq
 go_enter func156,ntmps156
 go_wp2
 refine bodyPost_ret (v:=.agg #[J Y (y * z' - z * y'),J Y (z * x' - x * z'),J Y (x * y' - y * x')]) ?_ rfl ⟨rfl,(((Below.refl _ w).alloc (Nat.le_refl _) _).alloc (by simp) _).alloc (by simp;omega) _⟩
 simp [results,results156,go_sem]
theorem Jm4 (a b c:Pt) (w0:World) (ha:a.inB 65536 = true) (hb:b.inB 65536 = true) (hc:c.inB 65536 = true) :
  Calls Tryz.prog 132 #[a.v,b.v,c.v] w0 fun e W=>e = .returned ((b.sub a).cross (c.sub a)).v/\Below w0.heap.size w0 W:=by
 have L1:Hid _:=fun w'=>Jg6 b a w' (J6 hb (by decide)) (J6 ha (by decide))
 have L2:Hid _:=fun w'=>Jg6 c a w' (J6 hc (by decide)) (J6 ha (by decide))
 have L3:Hid _:=fun w'=>Jpc (b.sub a) (c.sub a) w' (Jci hb ha) (Jci hc ha)
 clear ha hb hc
 obtain ⟨ax,ay,az⟩:=a
 obtain ⟨bx,by_,bz⟩:=b
 obtain ⟨cx,cy,cz⟩:=c
 unfold Pt.v Pt.sub Pt.cross at *
 dsimp only at *
 go_enter func132,ntmps132
 go_wp2_with (fail)
 obtain ⟨V,hV⟩:∃ V:World,V = ((((w0.alloc (.cells #[J Y ax,J Y ay,J Y az] 23)).alloc (.cells #[J Y bx,J Y by_,J Y bz] 23)).alloc (.cells #[J Y cx,J Y cy,J Y cz] 23)).alloc (.cells #[J Y 0,J Y 0,J Y 0] 23)):=⟨_,rfl⟩
 have hBV:Below w0.heap.size w0 V:=by rw [hV];exact (((((Below.refl _ w0).alloc (by simp;try omega) _).alloc (by simp;try omega) _).alloc (by simp;try omega) _).alloc (by simp;try omega) _)
 have V0_0:V.cell? ⟨w0.heap.size,0,none⟩ = some (J Y ax):=by rw [hV];simp [go_sem]
 have V0_1:V.cell? ⟨w0.heap.size,1,none⟩ = some (J Y ay):=by rw [hV];simp [go_sem]
 have V0_2:V.cell? ⟨w0.heap.size,2,none⟩ = some (J Y az):=by rw [hV];simp [go_sem]
 have V1_0:V.cell? ⟨w0.heap.size + 1,0,none⟩ = some (J Y bx):=by rw [hV];simp [go_sem]
 have V1_1:V.cell? ⟨w0.heap.size + 1,1,none⟩ = some (J Y by_):=by rw [hV];simp [go_sem]
 have V1_2:V.cell? ⟨w0.heap.size + 1,2,none⟩ = some (J Y bz):=by rw [hV];simp [go_sem]
 have V2_0:V.cell? ⟨w0.heap.size + 1 + 1,0,none⟩ = some (J Y cx):=by rw [hV];simp [go_sem]
 have V2_1:V.cell? ⟨w0.heap.size + 1 + 1,1,none⟩ = some (J Y cy):=by rw [hV];simp [go_sem]
 have V2_2:V.cell? ⟨w0.heap.size + 1 + 1,2,none⟩ = some (J Y cz):=by rw [hV];simp [go_sem]
 have V3_0:V.cell? ⟨w0.heap.size + 1 + 1 + 1,0,none⟩ = some (J Y 0):=by rw [hV];simp [go_sem]
 have V3_1:V.cell? ⟨w0.heap.size + 1 + 1 + 1,1,none⟩ = some (J Y 0):=by rw [hV];simp [go_sem]
 have V3_2:V.cell? ⟨w0.heap.size + 1 + 1 + 1,2,none⟩ = some (J Y 0):=by rw [hV];simp [go_sem]
 have Vf3_0:V.frozen? ⟨w0.heap.size + 1 + 1 + 1,0,none⟩ = false:=by rw [hV];simp [go_sem]
 have Vf3_1:V.frozen? ⟨w0.heap.size + 1 + 1 + 1,1,none⟩ = false:=by rw [hV];simp [go_sem]
 have Vf3_2:V.frozen? ⟨w0.heap.size + 1 + 1 + 1,2,none⟩ = false:=by rw [hV];simp [go_sem]
 rw [<- hV]
 clear hV
 refine RV.rs [.some (.agg #[J Y bx,J Y by_,J Y bz]),.some (.agg #[J Y ax,J Y ay,J Y az]),.some (.agg #[J Y (bx - ax),J Y (by_ - ay),J Y (bz - az)]),.some (.agg #[J Y cx,J Y cy,J Y cz]),.some (.agg #[J Y ax,J Y ay,J Y az]),.some (.agg #[J Y (cx - ax),J Y (cy - ay),J Y (cz - az)]),.some (.agg #[J Y ((by_ - ay) * (cz - az) - (bz - az) * (cy - ay)),J Y ((bz - az) * (cx - ax) - (bx - ax) * (cz - az)),J Y ((bx - ax) * (cy - ay) - (by_ - ay) * (cx - ax))]),none] [8,9,10,11,12,13,14,0] [(3,.pointer (some ⟨w0.heap.size,0,none⟩)),(4,.pointer (some ⟨w0.heap.size + 1,0,none⟩)),(5,.pointer (some ⟨w0.heap.size + 1 + 1,0,none⟩)),(6,.pointer (some ⟨w0.heap.size + 1 + 1 + 1,0,none⟩))] (fun γ L w9=>(L 7 = false/\Below V.heap.size V w9) \/ (L 7 = true/\∃ w,Below V.heap.size V w/\w9 = (((w.setCell ⟨w0.heap.size + 1 + 1 + 1,0,none⟩ (J Y ((by_ - ay) * (cz - az) - (bz - az) * (cy - ay)))).setCell ⟨w0.heap.size + 1 + 1 + 1,1,none⟩ (J Y ((bz - az) * (cx - ax) - (bx - ax) * (cz - az)))).setCell ⟨w0.heap.size + 1 + 1 + 1,2,none⟩ (J Y ((bx - ax) * (cy - ay) - (by_ - ay) * (cx - ax)))))) ⟨rfl,rfl,rfl,rfl,trivial⟩ ?_ ?_ ?_
 ·exact Or.inl ⟨rfl,(Below.refl _ V).drew⟩
 ·intro D WA Z hD hWA hZ T
  simp only [RV.Outs,RV.Slots,Nat.reduceAdd] at T
  iterate 2 (refine RV.cc _ (RV.pu T (fun γ v L w hl h=>by rw [RV.mn (L:=L) (i:=_) (j:=7) (by decide)];exact h) (fun γ L a w hH hl h9 k9=>⟨_,?_,rfl⟩)) ?_;· have hB9:=Jal hH.glob (RV.ny hH (RV.wt (j:=7) hWA (by kernel_rfl)) hl);have q0:=Ja hB9 V1_0;have q1:=Ja hB9 V1_1;have q2:=Ja hB9 V1_2;have q3:=Ja hB9 V0_0;have q4:=Ja hB9 V0_1;have q5:=Ja hB9 V0_2;simp [JD,go_sem,h9,q0,q1,q2,q3,q4,q5])
  refine RV.cc _ (RV.dc (fun γ L a w hH hl hA=>by have h9:=T γ L a w hH;have k9:=hA;simp [JC] at k9;have hB9:=Jal hH.glob (RV.ny hH (RV.wt (j:=7) (i:=2) hWA (by kernel_rfl)) hl);exact ⟨134,#[.agg #[J Y bx,J Y by_,J Y bz],.agg #[J Y ax,J Y ay,J Y az]],by simp [go_sem,h9,k9],JA (L1.out w) (by rintro e w2 ⟨rfl,hb⟩;exact ⟨_,rfl,rfl,fun j v _ h=>h.keep _,Or.inl ⟨by rw [RV.mn (L:=L) (i:=2) (j:=7) (by decide)];exact RV.ny hH (RV.wt (j:=7) (i:=2) hWA (by kernel_rfl)) hl,hB9.trans (hb.mono hB9.size)⟩⟩)⟩)) ?_
  iterate 2 (refine RV.cc _ (RV.pu T (fun γ v L w hl h=>by rw [RV.mn (L:=L) (i:=_) (j:=7) (by decide)];exact h) (fun γ L a w hH hl h9 k9=>⟨_,?_,rfl⟩)) ?_;· have hB9:=Jal hH.glob (RV.ny hH (RV.wt (j:=7) hWA (by kernel_rfl)) hl);have q0:=Ja hB9 V2_0;have q1:=Ja hB9 V2_1;have q2:=Ja hB9 V2_2;have q3:=Ja hB9 V0_0;have q4:=Ja hB9 V0_1;have q5:=Ja hB9 V0_2;simp [JD,go_sem,h9,q0,q1,q2,q3,q4,q5])
  refine RV.cc _ (RV.dc (fun γ L a w hH hl hA=>by have h9:=T γ L a w hH;have k9:=hA;simp [JC] at k9;have hB9:=Jal hH.glob (RV.ny hH (RV.wt (j:=7) (i:=5) hWA (by kernel_rfl)) hl);exact ⟨134,#[.agg #[J Y cx,J Y cy,J Y cz],.agg #[J Y ax,J Y ay,J Y az]],by simp [go_sem,h9,k9],JA (L2.out w) (by rintro e w2 ⟨rfl,hb⟩;exact ⟨_,rfl,rfl,fun j v _ h=>h.keep _,Or.inl ⟨by rw [RV.mn (L:=L) (i:=5) (j:=7) (by decide)];exact RV.ny hH (RV.wt (j:=7) (i:=5) hWA (by kernel_rfl)) hl,hB9.trans (hb.mono hB9.size)⟩⟩)⟩)) ?_
  refine RV.cc _ (RV.dc (fun γ L a w hH hl hA=>by have h9:=T γ L a w hH;have k9:=hA;simp [JC] at k9;have hB9:=Jal hH.glob (RV.ny hH (RV.wt (j:=7) (i:=6) hWA (by kernel_rfl)) hl);exact ⟨156,#[.agg #[J Y (bx - ax),J Y (by_ - ay),J Y (bz - az)],.agg #[J Y (cx - ax),J Y (cy - ay),J Y (cz - az)]],by simp [go_sem,h9,k9],JA (L3.out w) (by rintro e w2 ⟨rfl,hb⟩;exact ⟨_,rfl,rfl,fun j v _ h=>h.keep _,Or.inl ⟨by rw [RV.mn (L:=L) (i:=6) (j:=7) (by decide)];exact RV.ny hH (RV.wt (j:=7) (i:=6) hWA (by kernel_rfl)) hl,hB9.trans (hb.mono hB9.size)⟩⟩)⟩)) ?_
  refine RV.cc _ (RV.does_store (fun γ L a w hH hl hA=>by have h9:=T γ L a w hH;have k9:=hA;simp [JC] at k9;have hB9:=Jal hH.glob hl;have z0:=Ja hB9 V3_0;have zf0:=Jt hB9 V3_0 Vf3_0;have z1:=Ja hB9 V3_1;have zf1:=Jt hB9 V3_1 Vf3_1;have z2:=Ja hB9 V3_2;have zf2:=Jt hB9 V3_2 Vf3_2;exact ⟨(((w.setCell ⟨w0.heap.size + 1 + 1 + 1,0,none⟩ (J Y ((by_ - ay) * (cz - az) - (bz - az) * (cy - ay)))).setCell ⟨w0.heap.size + 1 + 1 + 1,1,none⟩ (J Y ((bz - az) * (cx - ax) - (bx - ax) * (cz - az)))).setCell ⟨w0.heap.size + 1 + 1 + 1,2,none⟩ (J Y ((bx - ax) * (cy - ay) - (by_ - ay) * (cx - ax)))),by simp [JD,go_sem,z0,zf0,z1,zf1,z2,zf2,h9,k9],trivial,fun j v _ h=>h.keep _,Or.inr ⟨RV.more_self,w,hB9,rfl⟩⟩)) ?_
  exact RV.AllDo.nil
 ·intro γ w5 L9 hL hI9 hG9
  obtain ⟨w8,hb8,rfl⟩:=Jk9 hG9 (hL 7 (by decide))
  clear hL hI9 hG9
  simp only [RV.putL,Act.put,JH,JG,JF]
  have q0:=Ja hb8 V3_0
  have q1:=Ja hb8 V3_1
  have q2:=Ja hb8 V3_2
  go_wp2
  refine bodyPost_ret (v:=.agg #[J Y ((by_ - ay) * (cz - az) - (bz - az) * (cy - ay)),J Y ((bz - az) * (cx - ax) - (bx - ax) * (cz - az)),J Y ((bx - ax) * (cy - ay) - (by_ - ay) * (cx - ax))]) (by simp [results,results132,go_sem,q0,q1,q2]) rfl ⟨rfl,?_⟩
  exact ((((hBV.trans (hb8.mono hBV.size)).setCell (by simp;omega) _).setCell (by simp;omega) _).setCell (by simp;omega) _)
theorem Jl5 (p:Pt) (m:Int) (w:World) (hm:0 <= m) (hm':m <= 1152921504606846976) :
  Calls Tryz.prog 154 #[p.v,J Y m] w fun e W=>e = .returned (.bool (p.inB m))/\Below w.heap.size w W:=by
 obtain ⟨x,y,z⟩:=p
 have HE:Hid (∀ b:Bool,(b = true ↔ (-m <= x/\x <= m)/\(-m <= y/\y <= m)/\(-m <= z/\z <= m))->Pt.inB ⟨x,y,z⟩ m = b):=fun b h=>by
  rw [Bool.eq_iff_iff,h,Pt.inB_iff]
 unfold Pt.v
 go_enter func154,ntmps154
 go_wp2
 all_goals
  go_ret
  exact ⟨congrArg (fun b=>Ending.returned (.bool b)) (HE.out _ ⟨fun h=>by first | (cases h;done) | omega | (have h':=of_decide_eq_true h;omega),fun h=>by first | rfl | (exfalso;omega) | exact decide_eq_true (by omega)⟩).symm,Jb w _⟩
end
section
open Go.RowKit Go.Shelf
theorem Jnh {a b B:Nat} (ha:a <= B) (hb:b <= B):Nat.gcd a b <= B:=by
 by_cases h:a = 0
 ·subst h;rw [Nat.gcd_zero_left];exact hb
 ·exact Nat.le_trans (Nat.le_of_dvd (by omega) (Nat.gcd_dvd_left a b)) ha
theorem Jkf (k:Nat) (q:Pt) (h:q.inB 1048576 = false) (hb:q.inB (2 ^ k:Nat) = true):∃ j,k = j + 1/\Jcq k q = Jcq j (q.by 2)/\(q.by 2).inB (2 ^ j:Nat) = true:=by
 cases k with
 | zero=>rw [J6 hb (by decide)] at h;cases h
 | succ j =>
  refine ⟨j,rfl,by rw [Jcq,if_neg (by rw [h];decide)],Jn0 ?_⟩
  rw [Nat.pow_succ,Nat.mul_comm,Int.natCast_mul] at hb
  exact hb
theorem Jrn (k:Nat) (h:k <= 43):(((2 ^ k:Nat):Nat):Int) <= 8796093022208:=by
 have:=Nat.pow_le_pow_right (n:=2) (by decide) h
 have e:2 ^ 43 = 8796093022208:=by decide
 omega
end
section
open Go.RowKit Go.Shelf
theorem Jbe (p q:Pt):p = q ↔ p.x = q.x/\p.y = q.y/\p.z = q.z:=by cases p;cases q;simp
theorem Jot (v:Value) (L:List Pt) (p:Pt) (w:World) (hv:Lies w v L) :
  Calls Tryz.prog 164 #[v,p.v] w fun e W=>∃ k:Int,e = .returned (J Y k)/\(0 <= k ↔ p ∈ L)/\Below w.heap.size w W:=by
 obtain ⟨o,c,rfl,hlc,hcm,hcell⟩:=hv.form
 have HC:Hid _:=hcell
 have bx:Hid (Box3 (w.alloc (.cells #[J Y p.x,J Y p.y,J Y p.z] 23)) w.heap.size p):=Box3.new w p.x p.y p.z _
 have hB:Hid (Below w.heap.size w (w.alloc (.cells #[J Y p.x,J Y p.y,J Y p.z] 23))):=Jb w _
 clear hv hcell
 unfold Pt.v
 go_enter func164,ntmps164
 go_wp2_with (fail)
 go_loopw [8] (fun i wr=>∃ k:Nat,i = J Y (k:Int)/\k <= L.length/\Hid (∀ j,j < k->pt L j ≠ p)/\Hid (Box3 wr w.heap.size p)/\Hid (Below w.heap.size w wr)) (fun i _=>L.length - (intOf i).toNat)
 case atStart=>exact ⟨0,rfl,Nat.zero_le _,fun j hj=>absurd hj (by omega),bx,hB⟩
 case round =>
  clear bx hB
  obtain ⟨k,rfl,hk,HN,bx,HB⟩:=hrel
  by_cases hlt:k < L.length
  ·obtain ⟨g,off,rfl,x0,x1,x2⟩:=HC.out k hlt
   have x0:=Ja HB.out x0
   have x1:=Ja HB.out x1
   have x2:=Ja HB.out x2
   obtain ⟨c0,c1,c2,_,_,_⟩:=bx.out
   have HEQ:Hid (pt L k = p->p ∈ L):=fun e=>e ▸ Jaq hlt
   have HNE:Hid (pt L k ≠ p->∀ j,j < k + 1->pt L j ≠ p):=fun e j hj=>by
    by_cases ej:j = k
    ·subst ej;exact e
    ·exact HN.out j (by omega)
   rw [Jbe] at HEQ
   rw [Ne,Jbe] at HNE
   generalize (pt L k).x = lx at *
   generalize (pt L k).y = ly at *
   generalize (pt L k).z = lz at *
   by_cases ex:lx = p.x
   ·subst ex
    by_cases ey:ly = p.y
    ·subst ey
     by_cases ez:lz = p.z
     ·subst ez
      go_wp2_with (fail)
      go_region
      go_wp2_with (fail)
      go_ret
      exact ⟨_,rfl,⟨fun _=>HEQ.out (by simp),fun _=>by omega⟩,HB.out.drew⟩
     ·have e1:(p.z == lz) = false:=beq_eq_false_iff_ne.2 fun e=>ez e.symm
      go_wp2_with (fail)
      go_region
      go_wp2_with (fail)
      go_roundw
      case rel=>exact ⟨k + 1,by go_num,by omega,HNE.out (fun h=>ez h.2.2),bx.out.step (Below.refl _ _).drew,HB.out.drew⟩
      case measure=>simp [intOf];omega
    ·have e1:(p.y == ly) = false:=beq_eq_false_iff_ne.2 fun e=>ey e.symm
     go_wp2_with (fail)
     go_region
     go_wp2_with (fail)
     go_roundw
     case rel=>exact ⟨k + 1,by go_num,by omega,HNE.out (fun h=>ey h.2.1),bx.out.step (Below.refl _ _).drew,HB.out.drew⟩
     case measure=>simp [intOf];omega
   ·have e1:(p.x == lx) = false:=beq_eq_false_iff_ne.2 fun e=>ex e.symm
    go_wp2_with (fail)
    go_region
    go_wp2_with (fail)
    go_roundw
    case rel=>exact ⟨k + 1,by go_num,by omega,HNE.out (fun h=>ex h.1),bx.out.step (Below.refl _ _).drew,HB.out.drew⟩
    case measure=>simp [intOf];omega
  ·have e:k = L.length:=by omega
   have HX:Hid (p ∉ L):=fun hp=>by
    obtain ⟨j,hj,ej⟩:=Jdt hp
    exact HN.out j (by omega) ej
   clear e
   go_wp2_with (fail)
   go_ret
   exact ⟨_,rfl,⟨fun h=>absurd h (by decide),fun h=>absurd h HX.out⟩,HB.out⟩
theorem Jjd (v:Value) (L:List Pt) (p:Pt) (w:World) (hv:Lies w v L) :
  Calls Tryz.prog 155 #[v,p.v] w fun e W=>e = .returned (.bool (decide (p ∈ L)))/\Below w.heap.size w W:=by
 have HI:Hid _:=Jot v L p (w.alloc (.cells #[J Y p.x,J Y p.y,J Y p.z] 23)) (hv.below (Jb w _))
 obtain ⟨o,c,rfl,_⟩:=hv.form
 unfold Pt.v at *
 clear hv
 go_enter func155,ntmps155
 go_wp2_with (fail)
 refine JA HI.out ?_
 clear HI
 rintro e V ⟨k,rfl,hk,hb⟩
 have hB:=Jf (Jb w _) hb
 clear hb
 have HK:Hid _:=hk
 clear hk
 go_wp2_with (fail)
 go_ret
 exact ⟨congrArg (fun b=>Ending.returned (.bool b)) (by rw [Bool.eq_iff_iff,decide_eq_true_eq,decide_eq_true_eq];exact HK.out),hB⟩
end
section
open Go.RowKit Go.Shelf
def At (W:World) (g:Nat) (M:List Pt):Prop:=∀ i,i < M.length->W.cell? ⟨g,i * 3,none⟩ = some (J Y (pt M i).x)/\W.cell? ⟨g,i * 3 + 1,none⟩ = some (J Y (pt M i).y)/\W.cell? ⟨g,i * 3 + 2,none⟩ = some (J Y (pt M i).z)
theorem At.below {w W:World} {g:Nat} {M:List Pt} (h:At w g M) (hb:Below w.heap.size w W):At W g M:=fun i hi=>⟨Ja hb (h i hi).1,Ja hb (h i hi).2.1,Ja hb (h i hi).2.2⟩
theorem At.grown {w W:World} {g:Nat} {M:List Pt} {row:Option Nat} (h:At w g M) (hg:w.grownBy W row) (hne:row ≠ some g):At W g M:=fun i hi =>
 ⟨hg.cell (h i hi).1 (fun e=>hne e.symm),hg.cell (h i hi).2.1 (fun e=>hne e.symm),hg.cell (h i hi).2.2 (fun e=>hne e.symm)⟩
end
section
open Go.RowKit Go.Shelf
theorem Box3.grown {w W:World} {b:Nat} {q:Pt} {row:Option Nat} (h:Box3 w b q) (hg:w.grownBy W row) (hne:row ≠ some b):Box3 W b q:=by
 have hb:=hg.block b h.lt (fun e=>hne e.symm)
 obtain ⟨c0,c1,c2,f0,f1,f2⟩:=h
 simp only [World.cell?,World.frozen?] at c0 c1 c2 f0 f1 f2
 rw [<- hb] at c0 c1 c2 f0 f1 f2
 exact ⟨c0,c1,c2,f0,f1,f2⟩
structure Two (w0 W:World) (va ve:Value) (A E:List Pt) (bs:List (Nat × Pt)):Prop where
 ra:W.ownsRow w0.heap.size 23 3 va A.length (fl3 A)
 re:W.ownsRow w0.heap.size 23 3 ve E.length (fl3 E)
 apart:∀ k,ve.ownBlock = some k->va.ownBlock ≠ some k
 below:Below w0.heap.size w0 W
 box:∀ x ∈ bs,Box3 W x.1 x.2/\va.ownBlock ≠ some x.1/\ve.ownBlock ≠ some x.1/\w0.heap.size <= x.1
theorem Two.start (w0:World):Two w0 w0 (.slice none 0 0) (.slice none 0 0) [] [] []:=⟨World.ownsRow_nil _ _ _ _,World.ownsRow_nil _ _ _ _,(fun _ h=>by cases h),Below.refl _ _,(fun _ h=>by cases h)⟩
theorem Two.step {w0 W X:World} {va ve:Value} {A E:List Pt} {bs:List (Nat × Pt)} (h:Two w0 W va ve A E bs) (hb:Below W.heap.size W X):Two w0 X va ve A E bs:=
 ⟨Jq h.ra hb,Jq h.re hb,h.apart,h.below.trans (hb.mono h.below.size),fun x hx=>⟨(h.box x hx).1.step hb,(h.box x hx).2⟩⟩
theorem Two.axis {w0 W X:World} {va ve va':Value} {A E A':List Pt} {bs:List (Nat × Pt)} (h:Two w0 W va ve A E bs) (hr:X.ownsRow w0.heap.size 23 3 va' A'.length (fl3 A')) (hg:Grew W X va va'):Two w0 X va' ve A' E bs:=by
 obtain ⟨k1,k2⟩:=hg.beside h.re h.apart
 refine ⟨hr,k1,k2,hg.on h.below h.ra h.below.size,fun x hx=>?_⟩
 obtain ⟨b,b1,b2,b3⟩:=h.box x hx
 refine ⟨b.grown hg.grown b1,?_,b2,b3⟩
 rcases hg.same with e | ⟨k,e,hk⟩
 ·rw [e];exact b1
 ·rw [e];intro e';cases e';have:=b.lt;omega
theorem Two.swap {w0 W:World} {va ve:Value} {A E:List Pt} {bs:List (Nat × Pt)} (h:Two w0 W va ve A E bs):Two w0 W ve va E A bs:=⟨h.re,h.ra,fun k e e'=>h.apart k e' e,h.below,fun x hx=>⟨(h.box x hx).1,(h.box x hx).2.2.1,(h.box x hx).2.1,(h.box x hx).2.2.2⟩⟩
theorem Two.edge {w0 W X:World} {va ve ve':Value} {A E E':List Pt} {bs:List (Nat × Pt)} (h:Two w0 W va ve A E bs) (hr:X.ownsRow w0.heap.size 23 3 ve' E'.length (fl3 E')) (hg:Grew W X ve ve'):Two w0 X va ve' A E' bs:=(h.swap.axis hr hg).swap
theorem Jti (w:World) (p q r:Pt) (t:TypeId):At (w.alloc (.cells #[J Y p.x,J Y p.y,J Y p.z,J Y q.x,J Y q.y,J Y q.z,J Y r.x,J Y r.y,J Y r.z] t)) w.heap.size [p,q,r]:=by
 intro i hi
 match i,hi with
 | 0,_=>exact ⟨by simp [pt],by simp [pt],by simp [pt]⟩
 | 1,_=>exact ⟨by simp [pt],by simp [pt],by simp [pt]⟩
 | 2,_=>exact ⟨by simp [pt],by simp [pt],by simp [pt]⟩
theorem Jq9 (A:List Pt) (n:Pt):(Ja8 A n).length <= A.length + 1:=by unfold Ja8;split <;> simp
end
section
open Go.RowKit Go.Shelf
def Jcp (L:List Pt):Bool:=decide (4 <= L.length/\L.length <= 12) && (L.all (fun p=>p.inB 65536) && decide L.Nodup)
theorem Lies.take {w:World} {o:Option Addr} {n c:Nat} {L:List Pt} (h:Lies w (.slice o L.length c) L) (k:Nat) (hk:k <= L.length):Lies w (.slice o k c) (L.take k):=by
 obtain ⟨o',c',e,h1,h2,h3⟩:=h.form
 simp only [Value.slice.injEq,true_and] at e
 obtain ⟨rfl,rfl⟩:=e
 have hl:(L.take k).length = k:=by simp;omega
 refine ⟨o,c,by rw [hl],by omega,h2,fun i hi=>?_⟩
 rw [hl] at hi
 obtain ⟨g,off,e,a,b,c⟩:=h3 i (by omega)
 rw [Jsp hi]
 exact ⟨g,off,e,a,b,c⟩
theorem Jgz (L:List Pt) (f:Pt->Bool) (k:Nat) (hk:k < L.length):(L.take (k + 1)).all f = ((L.take k).all f && f (pt L k)):=by
 rw [Jb2 hk];simp
theorem Jmv (L:List Pt) (k:Nat) (hk:k < L.length) (h:(L.take k).Nodup):(L.take (k + 1)).Nodup ↔ pt L k ∉ L.take k:=by
 rw [Jb2 hk,List.nodup_append]
 constructor
 ·intro hh hm
  exact hh.2.2 _ hm _ (by simp) rfl
 ·intro hn
  refine ⟨h,by simp,fun a ha b hb e=>hn ?_⟩
  rw [List.mem_singleton] at hb
  rw [<- hb,<- e];exact ha
theorem Jgr (v:Value) (Ls:List Pt) (w0:World) (hv:Lies w0 v Ls) :
  Calls Tryz.prog 131 #[v] w0 fun e W=>e = .returned (.bool (Jcp Ls))/\Below w0.heap.size w0 W:=by
 obtain ⟨o,c,rfl,hlc,hcm,hcell⟩:=hv.form
 have HV:Hid _:=hv
 have HC:Hid _:=hcell
 clear hv hcell
 obtain ⟨R,hR⟩:∃ R,Jcp Ls = R:=⟨_,rfl⟩
 rw [hR]
 have HR:Hid _:=hR
 clear hR
 by_cases h4:4 <= Ls.length
 ·by_cases h12:Ls.length <= 12
  ·have HR:Hid (R = (Ls.all (fun p=>p.inB 65536) && decide Ls.Nodup)):=by show _ = _;rw [<- HR.out];unfold Jcp;simp [h4,h12]
   have h4':4 <= (Ls.length:Int):=by omega
   have h12':(Ls.length:Int) <= 12:=by omega
   go_enter func131,ntmps131
   go_wp2
   go_loopg [11] Ls.length (fun gm i wr=>∃ k:Nat,i = J Y (k:Int)/\k <= Ls.length/\gm = Ls.length - k/\Hid ((Ls.take k).all (fun p=>p.inB 65536) = true)/\Hid (Ls.take k).Nodup/\Hid (Below w0.heap.size w0 wr))
   case atStart=>exact ⟨0,rfl,Nat.zero_le _,rfl,rfl,by simp [Hid],Below.refl _ _⟩
   case round =>
    obtain ⟨k,rfl,hk,hgm,HA,HN,HB⟩:=hrel
    have HG:Hid _:=hgm
    clear hgm
    by_cases hlt:k < Ls.length
    ·obtain ⟨g,off,rfl,x0,x1,x2⟩:=HC.out k hlt
     have x0:=Ja HB.out x0
     have x1:=Ja HB.out x1
     have x2:=Ja HB.out x2
     have HS1:Hid _:=Jgz Ls (fun p=>p.inB 65536) k hlt
     have HS2:Hid _:=Jmv Ls k hlt HN.out
     generalize hp:pt Ls k = p at *
     have HP:Hid _:=hp
     clear hp
     go_upto_region 6 with fail
     obtain ⟨V,hV⟩:∃ V:World,V = wr.alloc (.cells #[J Y p.x,J Y p.y,J Y p.z] 23):=⟨_,rfl⟩
     obtain ⟨bp,hbp⟩:∃ bp,bp = wr.heap.size:=⟨_,rfl⟩
     have bx:Box3 (wr.alloc (.cells #[J Y p.x,J Y p.y,J Y p.z] 23)) wr.heap.size p:=Box3.new wr p.x p.y p.z _
     have HBV:Hid (Below w0.heap.size w0 V):=by rw [hV];exact Jf HB.out (Jb _ _)
     rw [<- hV,<- hbp] at bx ⊢
     clear hV hbp x0 x1 x2
     obtain ⟨p0,p1,p2,_,_,_⟩:=bx
     have L1:Hid _:=fun w'=>Jl5 p 65536 w' (by decide) (by decide)
     have L2:Hid (∀ w',Below V.heap.size V w'->Calls Tryz.prog 155 #[.slice (some ⟨g,off,none⟩) k c,p.v] w' fun e W=>e = .returned (.bool (decide (p ∈ Ls.take k)))/\Below w'.heap.size w' W):=fun w' hb=>Jjd _ (Ls.take k) p w' ((HV.out.take (n:=0) k hk).below (Jf HBV.out hb))
     unfold Pt.v at L1 L2
     have hkc:(k:Int) <= (c:Int):=by omega
     cases hw:p.inB 65536 with
     | false =>
      rw [hw] at L1
      have e:R = false:=by
       rw [HR.out]
       have:Ls.all (fun p=>p.inB 65536) = false:=by
        rw [List.all_eq_false]
        exact ⟨p,by rw [<- HP.out];exact Jaq hlt,by rw [hw];decide⟩
       rw [this];rfl
      subst e
      refine RV.rs [.some (.agg #[J Y p.x,J Y p.y,J Y p.z]),.some (.bool (false)),.some (.bool (true)),.some (.bool (true)),.some (undef),.some (undef),.some (undef),.some (undef),.some (undef),.some (.bool (true))] [17,18,19,20,21,22,23,24,25,26] [(0,.slice (some ⟨g,off,none⟩) Ls.length c),(3,J Y ((k:Int))),(4,.pointer (some ⟨bp,0,none⟩))] (fun γ L w9=>Below V.heap.size V w9) ⟨rfl,rfl,rfl,trivial⟩ ?_ ?_ ?_
      ·exact (Below.refl _ V).drew
      ·intro D WA Z hD hWA hZ T
       simp only [RV.Outs,RV.Slots,Nat.reduceAdd] at T
       (refine RV.cc _ (RV.pu T (fun γ v L w hl h=>h) (fun γ L a w hH hl h9 k9=>⟨_,?_,rfl⟩)) ?_;· have hB9:=hH.glob;have q0:=Ja hB9 p0;have q1:=Ja hB9 p1;have q2:=Ja hB9 p2;simp [JD,go_sem,h9,q0,q1,q2])
       refine RV.cc _ (RV.dc (fun γ L a w hH hl hA=>by have h9:=T γ L a w hH;have k9:=hA;simp [JC] at k9;have hB9:=hH.glob;exact ⟨154,#[.agg #[J Y p.x,J Y p.y,J Y p.z],J Y 65536],by simp [go_sem,h9,k9],JA (L1.out w) (by rintro e w2 ⟨rfl,hb⟩;exact ⟨_,rfl,rfl,fun j v _ h=>h.keep _,hB9.trans (hb.mono hB9.size)⟩)⟩)) ?_
       iterate 2 (refine RV.cc _ (RV.pu T (fun γ v L w hl h=>h) (fun γ L a w hH hl h9 k9=>⟨_,?_,rfl⟩)) ?_;· simp [JC] at k9;simp [JD,go_sem,h9,k9])
       refine RV.cc _ (RV.does_skip rfl (by rw [<- hD];rfl) (fun v w h=>h) (by simp) (fun w=>rfl) (fun γ v L w hl h=>h)) ?_
       refine RV.cc _ (RV.does_skip rfl (by rw [<- hD];rfl) (fun v w h=>h) (by simp) (fun w=>rfl) (fun γ v L w hl h=>h)) ?_
       refine RV.cc _ (RV.does_skip rfl (by rw [<- hD];rfl) (fun v w h=>h) (by simp) (fun w=>rfl) (fun γ v L w hl h=>h)) ?_
       refine RV.cc _ (RV.does_skip rfl (by rw [<- hD];rfl) (fun v w h=>h) (by simp) (fun w=>rfl) (fun γ v L w hl h=>h)) ?_
       refine RV.cc _ (RV.does_skip rfl (by rw [<- hD];rfl) (fun v w h=>h) (by simp) (fun w=>rfl) (fun γ v L w hl h=>h)) ?_
       (refine RV.cc _ (RV.pu T (fun γ v L w hl h=>h) (fun γ L a w hH hl h9 k9=>⟨_,?_,rfl⟩)) ?_;· simp [JC] at k9;simp [JD,go_sem,h9,k9])
       exact RV.AllDo.nil
      ·intro γ w5 L9 hL hI9 hG9
       have hb8:=hG9
       clear hL hI9 hG9
       simp only [RV.putL,Act.put,JH,JG,JF]
       have HB5:Hid _:=HBV.out.trans (hb8.mono HBV.out.size)
       clear hb8 L1 L2 p0 p1 p2
       go_wp2_with (fail)
       go_ret
       exact ⟨rfl,HB5.out⟩
     | true =>
      rw [hw] at L1
      by_cases hm:p ∈ Ls.take k
      ·have hd:decide (p ∈ Ls.take k) = true:=decide_eq_true hm
       rw [hd] at L2
       have e:R = false:=by
        rw [HR.out]
        have:decide Ls.Nodup = false:=by
         refine decide_eq_false fun hn=>?_
         have:=HS2.out.1 (hn.sublist (List.take_sublist _ _))
         exact this hm
        rw [this];simp
       subst e
       clear hd hm
       refine RV.rs [.some (.agg #[J Y p.x,J Y p.y,J Y p.z]),.some (.bool (true)),.some (.bool (false)),.some (.bool (false)),.some (.slice (some ⟨g,off,none⟩) Ls.length c),.some (J Y ((k:Int))),.some (.slice (some ⟨g,off,none⟩) k c),.some (.agg #[J Y p.x,J Y p.y,J Y p.z]),.some (.bool (true)),.some (.bool (true))] [17,18,19,20,21,22,23,24,25,26] [(0,.slice (some ⟨g,off,none⟩) Ls.length c),(3,J Y ((k:Int))),(4,.pointer (some ⟨bp,0,none⟩))] (fun γ L w9=>Below V.heap.size V w9) ⟨rfl,rfl,rfl,trivial⟩ ?_ ?_ ?_
       ·exact (Below.refl _ V).drew
       ·intro D WA Z hD hWA hZ T
        simp only [RV.Outs,RV.Slots,Nat.reduceAdd] at T
        (refine RV.cc _ (RV.pu T (fun γ v L w hl h=>h) (fun γ L a w hH hl h9 k9=>⟨_,?_,rfl⟩)) ?_;· have hB9:=hH.glob;have q0:=Ja hB9 p0;have q1:=Ja hB9 p1;have q2:=Ja hB9 p2;simp [JD,go_sem,h9,q0,q1,q2])
        refine RV.cc _ (RV.dc (fun γ L a w hH hl hA=>by have h9:=T γ L a w hH;have k9:=hA;simp [JC] at k9;have hB9:=hH.glob;exact ⟨154,#[.agg #[J Y p.x,J Y p.y,J Y p.z],J Y 65536],by simp [go_sem,h9,k9],JA (L1.out w) (by rintro e w2 ⟨rfl,hb⟩;exact ⟨_,rfl,rfl,fun j v _ h=>h.keep _,hB9.trans (hb.mono hB9.size)⟩)⟩)) ?_
        iterate 6 first
         | (refine RV.cc _ (RV.dg rfl (by rw [<- hD];rfl) (fun v w h=>h) (by simp) (RV.pu T (fun γ v L w hl h=>h) (fun γ L a w hH hl h9 k9=>⟨_,?_,rfl⟩))) ?_;· simp [JD,go_sem,h9])
         | (refine RV.cc _ (RV.pu T (fun γ v L w hl h=>h) (fun γ L a w hH hl h9 k9=>⟨_,?_,rfl⟩)) ?_;· simp [JC] at k9;simp [JD,go_sem,h9,k9])
         | (refine RV.cc _ (RV.dg rfl (by rw [<- hD];rfl) (fun v w h=>h) (by simp) (RV.pu T (fun γ v L w hl h=>h) (fun γ L a w hH hl h9 k9=>⟨_,?_,rfl⟩))) ?_;· simp [JC] at k9;simp [JD,go_sem,h9,k9,hkc])
         | (refine RV.cc _ (RV.dg rfl (by rw [<- hD];rfl) (fun v w h=>h) (by simp) (RV.pu T (fun γ v L w hl h=>h) (fun γ L a w hH hl h9 k9=>⟨_,?_,rfl⟩))) ?_;· have hB9:=hH.glob;have q0:=Ja hB9 p0;have q1:=Ja hB9 p1;have q2:=Ja hB9 p2;simp [JD,go_sem,h9,q0,q1,q2])
        refine RV.cc _ (RV.dg rfl (by rw [<- hD];rfl) (fun v w h=>h) (by simp) (RV.dc (fun γ L a w hH hl hA=>by have h9:=T γ L a w hH;have k9:=hA;simp [JC] at k9;have hB9:=hH.glob;exact ⟨155,#[.slice (some ⟨g,off,none⟩) k c,.agg #[J Y p.x,J Y p.y,J Y p.z]],by simp [go_sem,h9,k9],JA (L2.out w hB9) (by rintro e w2 ⟨rfl,hb⟩;exact ⟨_,rfl,rfl,fun j v _ h=>h.keep _,hB9.trans (hb.mono hB9.size)⟩)⟩))) ?_
        (refine RV.cc _ (RV.pu T (fun γ v L w hl h=>h) (fun γ L a w hH hl h9 k9=>⟨_,?_,rfl⟩)) ?_;· simp [JC] at k9;simp [JD,go_sem,h9,k9])
        exact RV.AllDo.nil
       ·intro γ w5 L9 hL hI9 hG9
        have hb8:=hG9
        clear hL hI9 hG9
        simp only [RV.putL,Act.put,JH,JG,JF]
        have HB5:Hid _:=HBV.out.trans (hb8.mono HBV.out.size)
        clear hb8 L1 L2 p0 p1 p2
        go_wp2_with (fail)
        go_ret
        exact ⟨rfl,HB5.out⟩
      ·have hd:decide (p ∈ Ls.take k) = false:=decide_eq_false hm
       rw [hd] at L2
       have HS1:Hid ((Ls.take (k + 1)).all (fun p=>p.inB 65536) = true):=by show _ = _;rw [HS1.out,HA.out,hw];rfl
       have HS2:Hid (Ls.take (k + 1)).Nodup:=HS2.out.2 hm
       clear hd hm
       refine RV.rs [.some (.agg #[J Y p.x,J Y p.y,J Y p.z]),.some (.bool (true)),.some (.bool (false)),.some (.bool (false)),.some (.slice (some ⟨g,off,none⟩) Ls.length c),.some (J Y ((k:Int))),.some (.slice (some ⟨g,off,none⟩) k c),.some (.agg #[J Y p.x,J Y p.y,J Y p.z]),.some (.bool (false)),.some (.bool (false))] [17,18,19,20,21,22,23,24,25,26] [(0,.slice (some ⟨g,off,none⟩) Ls.length c),(3,J Y ((k:Int))),(4,.pointer (some ⟨bp,0,none⟩))] (fun γ L w9=>Below V.heap.size V w9) ⟨rfl,rfl,rfl,trivial⟩ ?_ ?_ ?_
       ·exact (Below.refl _ V).drew
       ·intro D WA Z hD hWA hZ T
        simp only [RV.Outs,RV.Slots,Nat.reduceAdd] at T
        (refine RV.cc _ (RV.pu T (fun γ v L w hl h=>h) (fun γ L a w hH hl h9 k9=>⟨_,?_,rfl⟩)) ?_;· have hB9:=hH.glob;have q0:=Ja hB9 p0;have q1:=Ja hB9 p1;have q2:=Ja hB9 p2;simp [JD,go_sem,h9,q0,q1,q2])
        refine RV.cc _ (RV.dc (fun γ L a w hH hl hA=>by have h9:=T γ L a w hH;have k9:=hA;simp [JC] at k9;have hB9:=hH.glob;exact ⟨154,#[.agg #[J Y p.x,J Y p.y,J Y p.z],J Y 65536],by simp [go_sem,h9,k9],JA (L1.out w) (by rintro e w2 ⟨rfl,hb⟩;exact ⟨_,rfl,rfl,fun j v _ h=>h.keep _,hB9.trans (hb.mono hB9.size)⟩)⟩)) ?_
        iterate 6 first
         | (refine RV.cc _ (RV.dg rfl (by rw [<- hD];rfl) (fun v w h=>h) (by simp) (RV.pu T (fun γ v L w hl h=>h) (fun γ L a w hH hl h9 k9=>⟨_,?_,rfl⟩))) ?_;· simp [JD,go_sem,h9])
         | (refine RV.cc _ (RV.pu T (fun γ v L w hl h=>h) (fun γ L a w hH hl h9 k9=>⟨_,?_,rfl⟩)) ?_;· simp [JC] at k9;simp [JD,go_sem,h9,k9])
         | (refine RV.cc _ (RV.dg rfl (by rw [<- hD];rfl) (fun v w h=>h) (by simp) (RV.pu T (fun γ v L w hl h=>h) (fun γ L a w hH hl h9 k9=>⟨_,?_,rfl⟩))) ?_;· simp [JC] at k9;simp [JD,go_sem,h9,k9,hkc])
         | (refine RV.cc _ (RV.dg rfl (by rw [<- hD];rfl) (fun v w h=>h) (by simp) (RV.pu T (fun γ v L w hl h=>h) (fun γ L a w hH hl h9 k9=>⟨_,?_,rfl⟩))) ?_;· have hB9:=hH.glob;have q0:=Ja hB9 p0;have q1:=Ja hB9 p1;have q2:=Ja hB9 p2;simp [JD,go_sem,h9,q0,q1,q2])
        refine RV.cc _ (RV.dg rfl (by rw [<- hD];rfl) (fun v w h=>h) (by simp) (RV.dc (fun γ L a w hH hl hA=>by have h9:=T γ L a w hH;have k9:=hA;simp [JC] at k9;have hB9:=hH.glob;exact ⟨155,#[.slice (some ⟨g,off,none⟩) k c,.agg #[J Y p.x,J Y p.y,J Y p.z]],by simp [go_sem,h9,k9],JA (L2.out w hB9) (by rintro e w2 ⟨rfl,hb⟩;exact ⟨_,rfl,rfl,fun j v _ h=>h.keep _,hB9.trans (hb.mono hB9.size)⟩)⟩))) ?_
        (refine RV.cc _ (RV.pu T (fun γ v L w hl h=>h) (fun γ L a w hH hl h9 k9=>⟨_,?_,rfl⟩)) ?_;· simp [JC] at k9;simp [JD,go_sem,h9,k9])
        exact RV.AllDo.nil
       ·intro γ w5 L9 hL hI9 hG9
        have hb8:=hG9
        clear hL hI9 hG9
        simp only [RV.putL,Act.put,JH,JG,JF]
        have HB5:Hid _:=HBV.out.trans (hb8.mono HBV.out.size)
        clear hb8 L1 L2 p0 p1 p2
        go_wp2_with (fail)
        go_roundg (Ls.length - (k + 1))
        case measure=>have:=HG.out;omega
        case rel=>exact ⟨k + 1,by go_num,by omega,rfl,HS1,HS2,HB5⟩
    ·have e:R = true:=by
      rw [HR.out]
      have e1:=HA.out
      have e2:=HN.out
      rw [List.take_of_length_le (by omega:Ls.length <= k)] at e1 e2
      rw [e1,decide_eq_true e2];rfl
     subst e
     go_wp2_with (fail)
     go_ret
     exact ⟨rfl,HB.out⟩
  ·have e:R = false:=by rw [<- HR.out];unfold Jcp;simp [h12]
   subst e
   have h12':¬ (Ls.length:Int) <= 12:=by omega
   clear HR
   go_enter func131,ntmps131
   go_wp2
   go_ret
   exact ⟨rfl,Below.refl _ _⟩
 ·have e:R = false:=by rw [<- HR.out];unfold Jcp;simp [h4]
  subst e
  have h4':¬ 4 <= (Ls.length:Int):=by omega
  clear HR
  go_enter func131,ntmps131
  go_wp2
  go_ret
  exact ⟨rfl,Below.refl _ _⟩
def J8 (n:Int):Bool:=decide (1 <= n/\n <= 65536)
theorem Jhx (l:List Int) (g:Nat) (w:World) (hc:∀ i,i < l.length->w.cell? ⟨g,i,none⟩ = some (J Y (l.getD i 0))) (hl:l.length <= 100) :
  Calls Tryz.prog 130 #[.slice (some ⟨g,0,none⟩) l.length l.length] w fun e W=>e = .returned (.bool (l.all J8))/\W = w:=by
 have HC:Hid _:=hc
 clear hc
 obtain ⟨R,hR⟩:∃ R,l.all J8 = R:=⟨_,rfl⟩
 rw [hR]
 have HR:Hid _:=hR
 clear hR
 go_enter func130,ntmps130
 go_wp2
 go_loop [7] (fun i=>∃ k:Nat,i = J Y (k:Int)/\k <= l.length/\Hid ((l.take k).all J8 = true)) (fun i=>l.length - (intOf i).toNat)
 case atStart=>exact ⟨0,rfl,Nat.zero_le _,rfl⟩
 case round =>
  obtain ⟨k,rfl,hk,HA⟩:=hrel
  by_cases hlt:k < l.length
  ·have hcell:=HC.out k hlt
   have hmem:l.getD k 0 ∈ l:=by rw [List.getD_eq_getElem?_getD,List.getElem?_eq_getElem hlt];exact List.getElem_mem hlt
   have HS:Hid ((l.take (k + 1)).all J8 = ((l.take k).all J8 && J8 (l.getD k 0))):=by show _ = _;rw [List.take_succ_eq_append_getElem hlt,List.all_append,List.getD_eq_getElem?_getD,List.getElem?_eq_getElem hlt];simp
   have HM:Hid (J8 (l.getD k 0) = false->R = false):=fun h=>by
    rw [<- HR.out,List.all_eq_false]
    exact ⟨_,hmem,by rw [h];decide⟩
   clear hmem
   generalize l.getD k 0 = n at *
   by_cases h1:1 <= n
   ·by_cases h2:n <= 65536
    ·have HS:Hid ((l.take (k + 1)).all J8 = true):=by show _ = _;rw [HS.out,HA.out];simp [J8,h1,h2]
     go_wp2
     go_round
     case rel=>exact ⟨k + 1,by go_num,by omega,HS⟩
     case measure=>simp [intOf];omega
    ·have e:R = false:=HM.out (by simp [J8,h2])
     subst e
     go_wp2
     go_ret
     exact ⟨rfl,rfl⟩
   ·have e:R = false:=HM.out (by simp [J8,h1])
    subst e
    go_wp2
    go_ret
    exact ⟨rfl,rfl⟩
  ·have e:R = true:=by
    have e1:=HA.out
    rw [List.take_of_length_le (by omega:l.length <= k)] at e1
    rw [<- HR.out];exact e1
   subst e
   go_wp2
   go_ret
   exact ⟨rfl,rfl⟩
end
section
open Go.RowKit Go.Shelf
theorem Jqc (v:Value) (Ls:List Pt) (w0:World) (hv:Lies w0 v Ls) (h4:4 <= Ls.length) (h12:Ls.length <= 12) (hin:∀ p ∈ Ls,p.inB 65536 = true) :
  Calls Tryz.prog 90 #[v] w0 fun e W=>e = .returned (.bool (Jdr Ls))/\Below w0.heap.size w0 W:=by
 obtain ⟨o,c,rfl,hlc,hcm,hcell⟩:=hv.form
 have HC:Hid _:=hcell
 have HIN:Hid _:=hin
 obtain ⟨g,off,rfl,x0,x1,x2⟩:=hcell 0 (by omega)
 obtain ⟨g',off',e',y0,y1,y2⟩:=hcell 1 (by omega)
 simp only [Option.some.injEq,Addr.mk.injEq,and_true] at e'
 obtain ⟨rfl,rfl⟩:=e'
 clear hcell hv hin
 simp only [Nat.zero_mul,Nat.add_zero,Nat.one_mul] at x0 x1 x2 y0 y1 y2
 have hgl:g < w0.heap.size:=World.block_lt_of_cell? _ _ x0
 have hl0:0 < Ls.length:=by omega
 have hl1:1 < Ls.length:=by omega
 have hain:(pt Ls 0).inB 65536 = true:=HIN.out _ (Jaq hl0)
 have hbin:(pt Ls 1).inB 65536 = true:=HIN.out _ (Jaq hl1)
 obtain ⟨R,hR⟩:∃ R,Jdr Ls = R:=⟨_,rfl⟩
 rw [hR]
 have HR:Hid (Ls.all (fun c=>Ls.all fun m=>decide (vol (pt Ls 0) (pt Ls 1) c m = 0)) = R):=hR
 clear hR
 generalize pt Ls 0 = pa at *
 generalize pt Ls 1 = pb at *
 go_enter func90,ntmps90
 go_upto_region 1 with fail
 go_cut [3,4] from 10 (fun s3 s4 wc=>∃ ba bb,s3 = .pointer (some ⟨ba,0,none⟩)/\s4 = .pointer (some ⟨bb,0,none⟩)/\Hid (Box3 wc ba pa)/\Hid (Box3 wc bb pb)/\Hid (Below w0.heap.size w0 wc))
 case first =>
  go_region
  ·go_wp2_with (fail)
   go_meet
   case rel=>exact ⟨_,_,rfl,rfl,(Box3.new w0 pa.x pa.y pa.z _).step ((Jb _ _).drew),(by have:=Box3.new (w0.alloc (.cells #[J Y pa.x,J Y pa.y,J Y pa.z] 23)) pb.x pb.y pb.z 23;rw [World.size_alloc] at this;exact this.step (Below.refl _ _).drew),(Jf (Jb w0 _) (Jb _ _)).drew⟩
  ·go_wp2_with (fail)
   go_meet
   case rel=>exact ⟨_,_,rfl,rfl,(by have:=Box3.new (w0.alloc (.cells #[J Y pb.x,J Y pb.y,J Y pb.z] 23)) pa.x pa.y pa.z 23;rw [World.size_alloc] at this;exact this.step (Below.refl _ _).drew),(Box3.new w0 pb.x pb.y pb.z _).step ((Jb _ _).drew),(Jf (Jb w0 _) (Jb _ _)).drew⟩
 case rest =>
  obtain ⟨ba,bb,rfl,rfl,BA,BB,HB⟩:=hcut
  clear x0 x1 x2 y0 y1 y2
  go_wp2_with (fail)
  go_loopg [18] Ls.length (fun gm i wr=>∃ k:Nat,i = J Y (k:Int)/\k <= Ls.length/\gm = Ls.length - k/\Hid ((Ls.take k).all (fun c=>Ls.all fun m=>decide (vol pa pb c m = 0)) = true)/\Hid (Below wc.heap.size wc wr))
  case atStart=>exact ⟨0,rfl,Nat.zero_le _,rfl,rfl,Below.refl _ _⟩
  case round =>
   obtain ⟨k,rfl,hk,hgm,HA,HBr⟩:=hrel
   have HG1:Hid _:=hgm
   clear hgm
   by_cases hlt:k < Ls.length
   ·obtain ⟨g',off',e',x0,x1,x2⟩:=HC.out k hlt
    simp only [Option.some.injEq,Addr.mk.injEq,and_true] at e'
    obtain ⟨rfl,rfl⟩:=e'
    have x0:=Ja (Jf HB.out HBr.out) x0
    have x1:=Ja (Jf HB.out HBr.out) x1
    have x2:=Ja (Jf HB.out HBr.out) x2
    have hcin:=HIN.out _ (Jaq hlt)
    have HS1:Hid _:=Jgz Ls (fun c=>Ls.all fun m=>decide (vol pa pb c m = 0)) k hlt
    have HM:Hid ((Ls.all fun m=>decide (vol pa pb (pt Ls k) m = 0)) = false->R = false):=fun h=>by
     rw [<- HR.out,List.all_eq_false]
     exact ⟨_,Jaq hlt,by rw [h];decide⟩
    generalize pt Ls k = pc at *
    go_upto_region 5 with fail
    obtain ⟨V,hV⟩:∃ V:World,V = wr.alloc (.cells #[J Y pc.x,J Y pc.y,J Y pc.z] 23):=⟨_,rfl⟩
    obtain ⟨bc,hbc⟩:∃ bc,bc = wr.heap.size:=⟨_,rfl⟩
    have BC:Hid (Box3 (wr.alloc (.cells #[J Y pc.x,J Y pc.y,J Y pc.z] 23)) wr.heap.size pc):=Box3.new wr pc.x pc.y pc.z _
    have HBV:Hid (Below wc.heap.size wc V):=by rw [hV];exact Jf HBr.out (Jb _ _)
    rw [<- hV,<- hbc] at BC ⊢
    clear hV hbc x0 x1 x2
    obtain ⟨p0,p1,p2,_,_,_⟩:=BA.out.step HBV.out
    obtain ⟨q0,q1,q2,_,_,_⟩:=BB.out.step HBV.out
    obtain ⟨s0,s1,s2,_,_,_⟩:=BC.out
    go_wp2_with (fail)
    refine JA (Jm4 pa pb pc _ hain hbin hcin) ?_
    rintro e W4 ⟨rfl,hb4⟩
    have HB4:Hid _:=Jf HBV.out hb4
    clear hb4 p0 p1 p2 q0 q1 q2 s0 s1 s2
    have hnin:=Jhj (Jci hbin hain) (Jci hcin hain)
    have HVO:Hid (∀ m,vol pa pb pc m = ((pb.sub pa).cross (pc.sub pa)).dot (m.sub pa)):=fun m=>rfl
    generalize (pb.sub pa).cross (pc.sub pa) = n at *
    unfold Pt.v
    go_upto_region 6 with fail
    obtain ⟨W5,hW5⟩:∃ W5:World,W5 = W4.alloc (.cells #[J Y n.x,J Y n.y,J Y n.z] 23):=⟨_,rfl⟩
    obtain ⟨bn,hbn⟩:∃ bn,bn = W4.heap.size:=⟨_,rfl⟩
    have BN:Hid (Box3 (W4.alloc (.cells #[J Y n.x,J Y n.y,J Y n.z] 23)) W4.heap.size n):=Box3.new W4 n.x n.y n.z _
    have HB5:Hid (Below wc.heap.size wc W5):=by rw [hW5];exact Jf HB4.out (Jb _ _)
    rw [<- hW5,<- hbn] at BN ⊢
    clear hW5 hbn
    have BA2:Hid _:=BA.out.step HB5.out
    go_wp2_with (fail)
    go_loopg [28] Ls.length (fun gm i wx=>∃ q:Nat,i = J Y (q:Int)/\q <= Ls.length/\gm = Ls.length - q/\Hid (((Ls.take q).all fun m=>decide (vol pa pb pc m = 0)) = true)/\Hid (Below W5.heap.size W5 wx))
    case atStart=>exact ⟨0,rfl,Nat.zero_le _,rfl,rfl,Below.refl _ _⟩
    case round =>
     obtain ⟨q,rfl,hq,hgm,HA2,HBq⟩:=hrel
     have HG2:Hid _:=hgm
     clear hgm
     by_cases hqt:q < Ls.length
     ·obtain ⟨g',off',e',x0,x1,x2⟩:=HC.out q hqt
      simp only [Option.some.injEq,Addr.mk.injEq,and_true] at e'
      obtain ⟨rfl,rfl⟩:=e'
      have x0:=Ja (Jf (Jf HB.out HB5.out) HBq.out) x0
      have x1:=Ja (Jf (Jf HB.out HB5.out) HBq.out) x1
      have x2:=Ja (Jf (Jf HB.out HB5.out) HBq.out) x2
      have hmin:=HIN.out _ (Jaq hqt)
      have HS2:Hid _:=Jgz Ls (fun m=>decide (vol pa pb pc m = 0)) q hqt
      have HM2:Hid (¬ vol pa pb pc (pt Ls q) = 0->R = false):=fun h=>HM.out (by
       rw [List.all_eq_false]
       exact ⟨_,Jaq hqt,by simpa using h⟩)
      rw [HVO.out] at HM2
      generalize hpm:pt Ls q = m at *
      have HPM:Hid _:=hpm
      clear hpm
      go_upto_region 9 with fail
      obtain ⟨W6,hW6⟩:∃ W6:World,W6 = wr.alloc (.cells #[J Y m.x,J Y m.y,J Y m.z] 23):=⟨_,rfl⟩
      obtain ⟨bm,hbm⟩:∃ bm,bm = wr.heap.size:=⟨_,rfl⟩
      have BM:Hid (Box3 (wr.alloc (.cells #[J Y m.x,J Y m.y,J Y m.z] 23)) wr.heap.size m):=Box3.new wr m.x m.y m.z _
      have HB6:Hid (Below W5.heap.size W5 W6):=by rw [hW6];exact Jf HBq.out (Jb _ _)
      rw [<- hW6,<- hbm] at BM ⊢
      clear hW6 hbm x0 x1 x2
      have L1:Hid _:=fun w'=>Jg6 m pa w' (J6 hmin (by decide)) (J6 hain (by decide))
      have L2:Hid _:=fun w'=>Jsc n (m.sub pa) w' hnin (Jci hmin hain)
      unfold Pt.v at L1 L2
      obtain ⟨p0,p1,p2,_,_,_⟩:=BA2.out.step HB6.out
      obtain ⟨q0,q1,q2,_,_,_⟩:=BN.out.step HB6.out
      obtain ⟨s0,s1,s2,_,_,_⟩:=BM.out
      have HVM:Hid (vol pa pb pc m = n.dot (m.sub pa)):=HVO.out m
      refine RV.rs [.some (.agg #[J Y n.x,J Y n.y,J Y n.z]),.some (.agg #[J Y m.x,J Y m.y,J Y m.z]),.some (.agg #[J Y pa.x,J Y pa.y,J Y pa.z]),.some (.agg #[J Y ((m.sub pa).x),J Y ((m.sub pa).y),J Y ((m.sub pa).z)]),.some (J Y (n.dot (m.sub pa))),.some (.bool (n.dot (m.sub pa) != 0))] [33,34,35,36,37,38] [(3,.pointer (some ⟨ba,0,none⟩)),(7,.pointer (some ⟨bn,0,none⟩)),(9,.pointer (some ⟨bm,0,none⟩))] (fun γ L w9=>Below W6.heap.size W6 w9) ⟨rfl,rfl,rfl,trivial⟩ ?_ ?_ ?_
      ·exact (Below.refl _ W6).drew
      ·intro D WA Z hD hWA hZ T
       simp only [RV.Outs,RV.Slots,Nat.reduceAdd] at T
       iterate 3 (refine RV.cc _ (RV.pu T (fun γ v L w hl h=>h) (fun γ L a w hH hl h9 k9=>⟨_,?_,rfl⟩)) ?_;· have hB9:=hH.glob;have q0:=Ja hB9 q0;have q1:=Ja hB9 q1;have q2:=Ja hB9 q2;have q3:=Ja hB9 s0;have q4:=Ja hB9 s1;have q5:=Ja hB9 s2;have q6:=Ja hB9 p0;have q7:=Ja hB9 p1;have q8:=Ja hB9 p2;simp [JD,go_sem,h9,q0,q1,q2,q3,q4,q5,q6,q7,q8])
       refine RV.cc _ (RV.dc (fun γ L a w hH hl hA=>by have h9:=T γ L a w hH;have k9:=hA;simp [JC] at k9;have hB9:=hH.glob;exact ⟨134,#[.agg #[J Y m.x,J Y m.y,J Y m.z],.agg #[J Y pa.x,J Y pa.y,J Y pa.z]],by simp [go_sem,h9,k9],JA (L1.out w) (by rintro e w2 ⟨rfl,hb⟩;exact ⟨_,rfl,rfl,fun j v _ h=>h.keep _,hB9.trans (hb.mono hB9.size)⟩)⟩)) ?_
       refine RV.cc _ (RV.dc (fun γ L a w hH hl hA=>by have h9:=T γ L a w hH;have k9:=hA;simp [JC] at k9;have hB9:=hH.glob;exact ⟨133,#[.agg #[J Y n.x,J Y n.y,J Y n.z],.agg #[J Y ((m.sub pa).x),J Y ((m.sub pa).y),J Y ((m.sub pa).z)]],by simp [go_sem,h9,k9],JA (L2.out w) (by rintro e w2 ⟨rfl,hb⟩;exact ⟨_,rfl,rfl,fun j v _ h=>h.keep _,hB9.trans (hb.mono hB9.size)⟩)⟩)) ?_
       (refine RV.cc _ (RV.pu T (fun γ v L w hl h=>h) (fun γ L a w hH hl h9 k9=>⟨_,?_,rfl⟩)) ?_;· simp [JC] at k9;simp [JD,go_sem,h9,k9])
       exact RV.AllDo.nil
      ·intro γ w5 L9 hL hI9 hG9
       have hb8:=hG9
       clear hL hI9 hG9
       simp only [RV.putL,Act.put,JH,JG,JF]
       have HB7:Hid _:=HB6.out.trans (hb8.mono HB6.out.size)
       clear hb8 L1 L2 p0 p1 p2 q0 q1 q2 s0 s1 s2
       generalize n.dot (m.sub pa) = dd at *
       by_cases hd:dd = 0
       ·subst hd
        have HS2:Hid (((Ls.take (q + 1)).all fun m=>decide (vol pa pb pc m = 0)) = true):=by show _ = _;rw [HS2.out,HA2.out];simp [HVM.out]
        clear HVM HM2
        go_wp2_with (fail)
        go_roundg (Ls.length - (q + 1))
        case measure=>have:=HG2.out;omega
        case rel=>exact ⟨q + 1,by go_num,by omega,rfl,HS2,HB7⟩
       ·have e:R = false:=HM2.out hd
        subst e
        have hd2:(dd != 0) = true:=bne_iff_ne.2 hd
        go_wp2_with (fail)
        go_ret
        exact ⟨rfl,Jf (Jf HB.out HB5.out) HB7.out⟩
     ·have e2:(Ls.all fun m=>decide (vol pa pb pc m = 0)) = true:=by
       have:=HA2.out
       rwa [List.take_of_length_le (by omega:Ls.length <= q)] at this
      have HS1:Hid ((Ls.take (k + 1)).all (fun c=>Ls.all fun m=>decide (vol pa pb c m = 0)) = true):=by show _ = _;rw [HS1.out,HA.out,e2];rfl
      clear e2
      go_wp2_with (fail)
      go_roundg (Ls.length - (k + 1))
      case measure=>have:=HG1.out;omega
      case rel=>exact ⟨k + 1,by go_num,by omega,rfl,HS1,Jf HB5.out HBq.out⟩
   ·have e:R = true:=by
     rw [<- HR.out]
     have:=HA.out
     rwa [List.take_of_length_le (by omega:Ls.length <= k)] at this
    subst e
    go_wp2_with (fail)
    go_ret
    exact ⟨rfl,Jf HB.out HBr.out⟩
end
end Go.Proofs.YteebbpioffdncaaGreat
