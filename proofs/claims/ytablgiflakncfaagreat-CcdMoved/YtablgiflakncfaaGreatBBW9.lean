/- Raw shapes made right, hulls too. -/
import Derived.Test.YtablgiflakncfaaGreatBBW0
import Derived.Test.YtablgiflakncfaaGreatBBW8
import Derived.Test.YtablgiflakncfaaGreatBBW5
import Derived.Test.YtablgiflakncfaaGreatBBW6
import Derived.BigQuiet
set_option maxHeartbeats 2000000
set_option maxRecDepth 100000
set_option linter.unusedVariables false
namespace Go.Proofs.YtablgiflakncfaaGreat
section
open Go.RowKit Go.Shelf
def partP (p:Pt):Pt:=⟨pickZ p.x 131073 - 65536,pickZ p.y 131073 - 65536,pickZ p.z 131073 - 65536⟩
def Pt.fits (p:Pt):Prop:=(-9223372036854775808 <= p.x/\p.x <= 9223372036854775807)/\(-9223372036854775808 <= p.y/\p.y <= 9223372036854775807)/\(-9223372036854775808 <= p.z/\p.z <= 9223372036854775807)
structure Good (s:Sh):Prop where
 k:1 <= s.kind/\s.kind <= 4
 r:1 <= s.radius/\s.radius <= 16384
 hx:1 <= s.half.x/\s.half.x <= 65536
 hy:1 <= s.half.y/\s.half.y <= 65536
 hz:1 <= s.half.z/\s.half.z <= 65536
 none:s.kind <= 3->s.pts = []
 ok:checkP s = 0
theorem good_small {k r x y z:Int} (hk:1 <= k/\k <= 3) (hr:1 <= r/\r <= 16384) (hx:1 <= x/\x <= 65536) (hy:1 <= y/\y <= 65536) (hz:1 <= z/\z <= 65536):Good ⟨k,r,⟨x,y,z⟩,[]⟩:=
 ⟨⟨hk.1,by dsimp only;omega⟩,hr,hx,hy,hz,fun _=>rfl,by
  have:k = 1 \/ k = 2 \/ k = 3:=by omega
  rcases this with rfl | rfl | rfl <;> simp [checkP,formP,inR,halfOk] <;> omega⟩
theorem good_hull {r x y z:Int} {M:List Pt} (hr:1 <= r/\r <= 16384) (hx:1 <= x/\x <= 65536) (hy:1 <= y/\y <= 65536) (hz:1 <= z/\z <= 65536) (hc:checkP ⟨4,r,⟨x,y,z⟩,M⟩ = 0):Good ⟨4,r,⟨x,y,z⟩,M⟩:=
 ⟨⟨by dsimp only;omega,by dsimp only;omega⟩,hr,hx,hy,hz,fun h=>by dsimp only at h;omega,hc⟩
theorem Cells.grown {A B:World} {b:Nat} {vs:List Value} {row:Option Nat} (h:Cells A b vs) (hg:A.grownBy B row) (hne:row ≠ some b):Cells B b vs:=fun i v e=>by
 have hb:B.heap[b]? = A.heap[b]?:=hg.block b (World.block_lt_of_cell? _ _ (h i v e).1) (fun e=>hne e.symm)
 exact ⟨(World.cell?_of_block (a:=⟨b,i,none⟩) hb).trans (h i v e).1,(World.frozen?_of_block (a:=⟨b,i,none⟩) hb).trans (h i v e).2⟩
theorem Cells.put {W:World} {b g:Nat} {vs:List Value} (h:Cells W b vs) (hne:b ≠ g) (k:Nat) (u:Value):Cells (W.setCell ⟨g,k,none⟩ u) b vs:=fun i v e=>by
 obtain ⟨q1,q2⟩:=h i v e
 exact ⟨by simp [go_sem,q1],by simp [go_sem,q2]⟩
theorem own_slice {w:World} {base:Nat} {t:TypeId} {sz n:Nat} {v:Value} {xs:List Value} (h:w.ownsRow base t sz v n xs):∃ o l c,v = .slice o l c:=by
 rcases h.2 with ⟨rfl,h0⟩ | ⟨g,cap,cur,rfl,_⟩
 ·exact ⟨_,_,_,rfl⟩
 ·exact ⟨_,_,_,rfl⟩
structure RS (w0 W:World) (ba bs b3:Nat) (raw:List Value) (a0 a1 a2 a3 a4:Value) (u:Value) (M:List Pt):Prop where
 c1:Cells W ba raw
 c2:Cells W bs [.int .i64 0,.int .i64 0,.int .i64 0,.int .i64 0,.int .i64 0,.slice none 0 0]
 c3:Cells W b3 [a0,a1,a2,a3,a4,u]
 row:W.ownsRow w0.heap.size 45 3 u M.length (fl3 M)
 na:u.ownBlock ≠ some ba
 ns:u.ownBlock ≠ some bs
 n3:u.ownBlock ≠ some b3
 below:Below w0.heap.size w0 W
 l3:w0.heap.size <= b3
 d1:ba ≠ b3
 d2:bs ≠ b3
 r0:∃ v,raw[0]? = some v
theorem RS.step {w0 W X:World} {ba bs b3:Nat} {raw:List Value} {a0 a1 a2 a3 a4 u:Value} {M:List Pt} (h:RS w0 W ba bs b3 raw a0 a1 a2 a3 a4 u M) (hb:Below W.heap.size W X):RS w0 X ba bs b3 raw a0 a1 a2 a3 a4 u M:=
 ⟨h.c1.step hb,h.c2.step hb,h.c3.step hb,own_below h.row hb,h.na,h.ns,h.n3,b_step h.below hb,h.l3,h.d1,h.d2,h.r0⟩
theorem RS.app {w0 V W:World} {ba bs b3:Nat} {raw:List Value} {a0 a1 a2 a3 a4 u u':Value} {M:List Pt} {p:Pt} (h:RS w0 V ba bs b3 raw a0 a1 a2 a3 a4 u M) (hr:W.ownsRow w0.heap.size 45 3 u' (M.length + 1) (fl3 M ++ [.int .i64 p.x,.int .i64 p.y,.int .i64 p.z])) (hg:Grew V W u u'):RS w0 (W.setCell ⟨b3,5,none⟩ u') ba bs b3 raw a0 a1 a2 a3 a4 u' (M ++ [p]):=by
 obtain ⟨v0,e0⟩:=h.r0
 have la:ba < V.heap.size:=World.block_lt_of_cell? _ _ (h.c1 0 _ e0).1
 have ls:bs < V.heap.size:=World.block_lt_of_cell? _ _ (h.c2 0 _ rfl).1
 have l3:b3 < V.heap.size:=World.block_lt_of_cell? _ _ (h.c3 0 _ rfl).1
 have off:∀ b,b < V.heap.size->u.ownBlock ≠ some b->u'.ownBlock ≠ some b:=fun b hb hne e=>by
  rcases hg.same with s | ⟨k,s,hk⟩
  ·exact hne (s ▸ e)
  ·rw [s] at e;cases e;omega
 refine ⟨(h.c1.grown hg.grown h.na).put h.d1 _ _,(h.c2.grown hg.grown h.ns).put h.d2 _ _,(h.c3.grown hg.grown h.n3).set 5 u' (by simp),?_,off _ la h.na,off _ ls h.ns,off _ l3 h.n3,(h.below.grown hg.grown h.below.size (fun k e=>(h.row.lt k e).1)).setCell h.l3 _,h.l3,h.d1,h.d2,h.r0⟩
 refine ownsRow_setCell_other ?_ (off _ l3 h.n3) _
 rw [fl3_append,List.length_append];exact hr
theorem part_ex (x:Int) (hx:-9223372036854775808 <= x/\x <= 9223372036854775807):∃ q:Int,pickZ x 131073 - 65536 = q/\∀ w:World,Calls Tryz.prog 94 #[.int .i64 x,.int .i64 65536] w fun e w'=>e = .returned (.int .i64 q)/\w' = w:=⟨_,rfl,fun w=>part_any x w hx⟩
theorem exec_append {P:Program} {w:World} {a:Act} (s x:Operand) (t ty:TypeId)
  (base:Nat) (e:TypeId) (i:TypeInfo) (z:Value) (size bytes:Nat) (ht:P.underlying t = some (.slice e)) (hi:P.info? e = some i) (hz:i.zero = some z)
  (hsize:i.size = size) (hby:i.bytes = bytes) (hzs:z.cells.size = size) (hsz:0 < size)
  (v:Value) (n:Nat) (xs:List Value) (hs:a.eval s = v) (hown:w.ownsRow base e size v n xs)
  (ad:Addr) (m c:Nat) (news:List Value) (hx:a.eval x = .slice (some ad) m c) (hl:news.length = m * size) (hnews:∀ j u,news[j]? = some u->w.cell? (ad.add j) = some u) (h1:∀ u ∈ news,u.oneCell' = true)
  (h63:n + m <= maxLen) (hbytes:(n + m) * bytes <= 140737488355328) (hbase:base <= w.heap.size) :
  ∃ v' w',(∀ o:Oper,o.op = .call { callee:=.builtin .append,args:=#[s,x],argTypes:=#[t,t] }->o.type = ty->(execOp a.eval o).run P w = .ok (.value v') w')/\w'.ownsRow base e size v' (n + m) (xs ++ news)/\Grew w w' v v':=by
 obtain ⟨v',w',hr,h2,h3,h4,h5⟩:=run_append_own_at (P:=P) w base t ty e i z size bytes ht hi hz hsize hby hzs hsz v n xs hown ad m c news hl hnews h1 h63 hbytes hbase
 refine ⟨v',w',?_,h2,h3,?_⟩
 ·intro o ho hty
  unfold execOp
  simp only [ho,hty,resolve,invoke,builtin,Sem.run_bind,Sem.run_pure,Result.andThen_ok,List.map_toArray,List.map_cons,List.map_nil,hs,hx,hr]
 ·rcases h5 with e | e
  ·exact Or.inl e
  ·exact Or.inr ⟨_,e,Nat.le_refl _⟩
def A8 (p q s:Nat) (W7:World) (B:Nat) (u:Value) (b3 k n:Nat) (xs news:List Value) (γ:Nat->Value) (L:Nat->Bool) (w:World):Prop:=
 (L q = false/\L s = false/\Below W7.heap.size W7 w/\(L p = true->∃ g,γ p = .slice (some ⟨g,0,none⟩) 1 1/\w.heap[g]? = some (.cells news.toArray 45 (0,0)))) \/
 (L q = true/\L s = false/\w.ownsRow B 45 3 (γ q) (n + 1) (xs ++ news)/\Grew W7 w u (γ q)) \/
 (L q = true/\L s = true/\∃ w8:World,w8.ownsRow B 45 3 (γ q) (n + 1) (xs ++ news)/\Grew W7 w8 u (γ q)/\w = w8.setCell ⟨b3,k,none⟩ (γ q))
section
variable {p q s:Nat} {W7:World} {B:Nat} {u:Value} {b3 k n:Nat} {xs news:List Value} {γ:Nat->Value} {L:Nat->Bool} {w:World}
theorem A8.start (hp:L p = false) (hq:L q = false) (hs:L s = false) (hb:Below W7.heap.size W7 w):A8 p q s W7 B u b3 k n xs news γ L w:=Or.inl ⟨hq,hs,hb,fun e=>by rw [hp] at e;cases e⟩
theorem A8.other (h:A8 p q s W7 B u b3 k n xs news γ L w) {i:Nat} (v:Value) (hp:p ≠ i) (hq:q ≠ i) (hs:s ≠ i):A8 p q s W7 B u b3 k n xs news (RV.upd γ i v) (more L i) w:=by
 unfold A8
 rw [RV.mn hp,RV.mn hq,RV.mn hs,RV.upd_ne _ _ hp,RV.upd_ne _ _ hq]
 exact h
theorem A8.early (h:A8 p q s W7 B u b3 k n xs news γ L w) (hq:L q = false):L s = false/\Below W7.heap.size W7 w/\(L p = true->∃ g,γ p = .slice (some ⟨g,0,none⟩) 1 1/\w.heap[g]? = some (.cells news.toArray 45 (0,0))):=by
 rcases h with h | h | h
 ·exact h.2
 ·rw [hq] at h;cases h.1
 ·rw [hq] at h;cases h.1
theorem A8.lay (h:A8 p q s W7 B u b3 k n xs news γ L w) (hq:L q = false) (npq:q ≠ p) (nps:s ≠ p):A8 p q s W7 B u b3 k n xs news (RV.upd γ p (.slice (some ⟨w.heap.size,0,none⟩) 1 1)) (more L p) (w.alloc (.cells news.toArray 45)):=by
 obtain ⟨h1,h2,_⟩:=h.early hq
 refine Or.inl ⟨by rw [RV.mn npq];exact hq,by rw [RV.mn nps];exact h1,b_step h2 (n_after _ _),fun _=>⟨w.heap.size,by rw [RV.upd_self],heap_alloc_new _ _⟩⟩
theorem A8.app {w':World} {v':Value} (hs:L s = false) (nqs:s ≠ q) (hr:w'.ownsRow B 45 3 v' (n + 1) (xs ++ news)) (hg:Grew W7 w' u v'):A8 p q s W7 B u b3 k n xs news (RV.upd γ q v') (more L q) w':=
 Or.inr (Or.inl ⟨RV.more_self,by rw [RV.mn nqs];exact hs,by rw [RV.upd_self];exact hr,by rw [RV.upd_self];exact hg⟩)
theorem A8.mid (h:A8 p q s W7 B u b3 k n xs news γ L w) (hq:L q = true) (hs:L s = false):w.ownsRow B 45 3 (γ q) (n + 1) (xs ++ news)/\Grew W7 w u (γ q):=by
 rcases h with h | h | h
 ·rw [hq] at h;cases h.1
 ·exact h.2.2
 ·rw [hs] at h;cases h.2.1
theorem A8.store (h:A8 p q s W7 B u b3 k n xs news γ L w) (hq:L q = true) (hs:L s = false) (nqs:q ≠ s) (v:Value):A8 p q s W7 B u b3 k n xs news (RV.upd γ s v) (more L s) (w.setCell ⟨b3,k,none⟩ (γ q)):=
 Or.inr (Or.inr ⟨by rw [RV.mn nqs];exact hq,RV.more_self,w,by rw [RV.upd_ne _ _ nqs];exact (h.mid hq hs).1,by rw [RV.upd_ne _ _ nqs];exact (h.mid hq hs).2,by rw [RV.upd_ne _ _ nqs]⟩)
theorem A8.done (h:A8 p q s W7 B u b3 k n xs news γ L w) (hs:L s = true):∃ w8:World,w8.ownsRow B 45 3 (γ q) (n + 1) (xs ++ news)/\Grew W7 w8 u (γ q)/\w = w8.setCell ⟨b3,k,none⟩ (γ q):=by
 rcases h with h | h | h
 ·rw [hs] at h;cases h.2.1
 ·rw [hs] at h;cases h.2.1
 ·exact h.2.2
end
theorem right_any (k r hx hy hz:Int) (pv:Value) (Ls:List Pt) (w0:World) (bk:-9223372036854775808 <= k/\k <= 9223372036854775807) (br:-9223372036854775808 <= r/\r <= 9223372036854775807) (bx:-9223372036854775808 <= hx/\hx <= 9223372036854775807) (by_:-9223372036854775808 <= hy/\hy <= 9223372036854775807) (bz:-9223372036854775808 <= hz/\hz <= 9223372036854775807) (hv:Lies w0 pv Ls) (hfit:∀ p ∈ Ls,p.fits) :
  Calls Tryz.prog 56 #[.agg #[.int .i64 k,.int .i64 r,.int .i64 hx,.int .i64 hy,.int .i64 hz,pv]] w0 fun e W=>∃ (s:Sh) (u:Value),e = .returned (s.v u)/\Row w0 W u s.pts/\Good s/\(s.kind = 4->pickZ k 4 = 3):=by
 have HV:Hid _:=hv
 have HFIT:Hid _:=hfit
 obtain ⟨o,c,rfl,hlc,hcm,hcell⟩:=hv.form
 have HCL:Hid _:=hcell
 clear hv hfit hcell
 have P1:Hid (∀ w',Calls Tryz.prog 93 #[.int .i64 k,.int .i64 4] w' fun e W=>e = .returned (.int .i64 (pickZ k 4))/\W = w'):=fun w'=>pick_any k 4 w' bk (by decide) (by decide)
 have P2:Hid _:=fun w'=>pick_any r 16384 w' br (by decide) (by decide)
 have P3:Hid _:=fun w'=>pick_below hx 65536 w' bx (by decide) (by decide)
 have P4:Hid _:=fun w'=>pick_below hy 65536 w' by_ (by decide) (by decide)
 have P5:Hid _:=fun w'=>pick_below hz 65536 w' bz (by decide) (by decide)
 have l1:=pickZ_lo k (n:=4) (by decide)
 have u1:=pickZ_hi k (n:=4) (by decide)
 have l2:=pickZ_lo r (n:=16384) (by decide)
 have u2:=pickZ_hi r (n:=16384) (by decide)
 have l3:=pickZ_lo hx (n:=65536) (by decide)
 have u3:=pickZ_hi hx (n:=65536) (by decide)
 have l4:=pickZ_lo hy (n:=65536) (by decide)
 have u4:=pickZ_hi hy (n:=65536) (by decide)
 have l5:=pickZ_lo hz (n:=65536) (by decide)
 have u5:=pickZ_hi hz (n:=65536) (by decide)
 generalize pickZ k 4 = kz at *
 generalize pickZ r 16384 = pr at *
 generalize pickZ hx 65536 = px at *
 generalize pickZ hy 65536 = py at *
 generalize pickZ hz 65536 = pz at *
 have n1:IntKind.i64.wrap (1 + kz) = 1 + kz:=by rw [IntKind.wrap_i64];omega
 have n2:IntKind.i64.wrap (1 + pr) = 1 + pr:=by rw [IntKind.wrap_i64];omega
 have n3:IntKind.i64.wrap (1 + px) = 1 + px:=by rw [IntKind.wrap_i64];omega
 have n4:IntKind.i64.wrap (1 + py) = 1 + py:=by rw [IntKind.wrap_i64];omega
 have n5:IntKind.i64.wrap (1 + pz) = 1 + pz:=by rw [IntKind.wrap_i64];omega
 clear bk br bx by_ bz
 go_enter Tryz.func56,Tryz.ntmps56
 go_upto_region 1 with fail
 obtain ⟨V,hV⟩:∃ V:World,V = (w0.alloc (.cells #[.int .i64 k,.int .i64 r,.int .i64 hx,.int .i64 hy,.int .i64 hz,.slice o Ls.length c] 67)).alloc (.cells #[.int .i64 0,.int .i64 0,.int .i64 0,.int .i64 0,.int .i64 0,.slice none 0 0] 100):=⟨_,rfl⟩
 have hD:Hid (Below w0.heap.size w0 V):=by rw [hV];exact b_step (n_after w0 _) (n_after _ _)
 have C1:Hid (Cells V w0.heap.size [.int .i64 k,.int .i64 r,.int .i64 hx,.int .i64 hy,.int .i64 hz,.slice o Ls.length c]):=by rw [hV];exact Cells.step (Cells.new w0 [.int .i64 k,.int .i64 r,.int .i64 hx,.int .i64 hy,.int .i64 hz,.slice o Ls.length c] _) (n_after _ _)
 have C2:Hid (Cells V (w0.heap.size + 1) [.int .i64 0,.int .i64 0,.int .i64 0,.int .i64 0,.int .i64 0,.slice none 0 0]):=by rw [hV];have:=Cells.new (w0.alloc (.cells #[.int .i64 k,.int .i64 r,.int .i64 hx,.int .i64 hy,.int .i64 hz,.slice o Ls.length c] 67)) [.int .i64 0,.int .i64 0,.int .i64 0,.int .i64 0,.int .i64 0,.slice none 0 0] 100;rwa [World.size_alloc] at this
 rw [<- hV]
 clear hV
 obtain ⟨ba,hba⟩:∃ ba,ba = w0.heap.size:=⟨_,rfl⟩
 obtain ⟨bs,hbs⟩:∃ bs,bs = w0.heap.size + 1:=⟨_,rfl⟩
 have hsl:w0.heap.size <= bs:=by omega
 rw [<- hbs] at C2 ⊢
 rw [<- hba] at C1 ⊢
 clear hba hbs
 have c0:=(C1.out 0 _ rfl).1
 have c1:=(C1.out 1 _ rfl).1
 refine RV.rs [.some (.pointer (some ⟨ba,0,none⟩)),.some (.int .i64 k),.some (.int .i64 kz),.some (.int .i64 (1 + kz)),.some (.pointer (some ⟨ba,1,none⟩)),.some (.int .i64 r),.some (.int .i64 pr),.some (.int .i64 (1 + pr)),.some (.agg #[.int .i64 (1 + kz),.int .i64 (1 + pr),.int .i64 0,.int .i64 0,.int .i64 0,.slice none 0 0]),none,none] [7,8,9,10,11,12,13,14,15,4,0] [(1,.pointer (some ⟨ba,0,none⟩))] (fun γ L w=>Below V.heap.size V w/\RV.Pend V 100 9 10 #[.int .i64 (1 + kz),.int .i64 (1 + pr),.int .i64 0,.int .i64 0,.int .i64 0,.slice none 0 0] γ L w) ⟨rfl,trivial⟩ ?_ ?_ ?_
 ·exact ⟨(Below.refl _ V).drew,RV.Pend.start rfl⟩
 ·intro D WA Z hD hWA hZ T
  simp only [RV.Outs,RV.Slots,Nat.reduceAdd] at T
  iterate 2 first
   | (refine RV.cc _ (RV.pu T (fun γ v L w hl h=>⟨h.1,h.2.other v (by decide) (by decide)⟩) (fun γ L a w hH hl h9 k9=>⟨_,?_,rfl⟩)) ?_;· simp [execOp,go_sem,h9])
   | (refine RV.cc _ (RV.pu T (fun γ v L w hl h=>⟨h.1,h.2.other v (by decide) (by decide)⟩) (fun γ L a w hH hl h9 k9=>⟨_,?_,rfl⟩)) ?_;· have q0:=c_after hH.glob.1 c0;simp [Region.binds] at k9;simp [execOp,go_sem,h9,k9,q0])
  refine RV.cc _ (RV.dc (fun γ L a w hH hl hA=>by have h9:=T γ L a w hH;have k9:=hA;simp [Region.binds] at k9;exact ⟨93,#[.int .i64 k,.int .i64 4],by simp [go_sem,h9,k9],Calls.mono (P1.out w) (by rintro e w2 ⟨rfl,rfl⟩;exact ⟨_,rfl,rfl,fun _ _ _ h=>h,hH.glob.1,hH.glob.2.other _ (by decide) (by decide)⟩)⟩)) ?_
  iterate 3 first
   | (refine RV.cc _ (RV.pu T (fun γ v L w hl h=>⟨h.1,h.2.other v (by decide) (by decide)⟩) (fun γ L a w hH hl h9 k9=>⟨_,?_,rfl⟩)) ?_;· simp [execOp,go_sem,h9])
   | (refine RV.cc _ (RV.pu T (fun γ v L w hl h=>⟨h.1,h.2.other v (by decide) (by decide)⟩) (fun γ L a w hH hl h9 k9=>⟨_,?_,rfl⟩)) ?_;· have q0:=c_after hH.glob.1 c1;simp [Region.binds] at k9;simp [execOp,go_sem,h9,k9,n1,q0])
  refine RV.cc _ (RV.dc (fun γ L a w hH hl hA=>by have h9:=T γ L a w hH;have k9:=hA;simp [Region.binds] at k9;exact ⟨93,#[.int .i64 r,.int .i64 16384],by simp [go_sem,h9,k9],Calls.mono (P2.out w) (by rintro e w2 ⟨rfl,rfl⟩;exact ⟨_,rfl,rfl,fun _ _ _ h=>h,hH.glob.1,hH.glob.2.other _ (by decide) (by decide)⟩)⟩)) ?_
  iterate 2 (refine RV.cc _ (RV.pu T (fun γ v L w hl h=>⟨h.1,h.2.other v (by decide) (by decide)⟩) (fun γ L a w hH hl h9 k9=>⟨_,?_,rfl⟩)) ?_;· simp [Region.binds] at k9;simp [execOp,go_sem,h9,k9,n2])
  refine RV.cc _ (RV.does_step (fun γ L a w hH hl hA=>by have h10:L 10 = false:=RV.ny hH (RV.wt (j:=10) (i:=9) hWA (by kernel_rfl)) hl;exact ⟨.pointer (some ⟨w.heap.size,0,none⟩),w.alloc (.cells #[.int .i64 0,.int .i64 0,.int .i64 0,.int .i64 0,.int .i64 0,.slice none 0 0] 100),by simp [execOp,go_sem],trivial,fun j v _ h=>h.keep _,hH.glob.1.alloc hH.glob.1.size _,RV.Pend.made _ rfl hH.glob.1.size h10 (by decide)⟩)) ?_
  refine RV.cc _ (RV.does_store (fun γ L a w hH hl hA=>by have h9:=T γ L a w hH;have k9:=hA;simp [Region.binds] at k9;have l0:L 9 = true:=hA ⟨9,.data⟩ (by simp) rfl;have e0:=hH.slot 9 3 (by rw [<- hD];rfl) l0;obtain ⟨b,cs,hb1,hb2,hb3,hb4,_⟩:=hH.glob.2 l0;rw [hb1] at e0;obtain ⟨u0,u1,u2,u3,u4,u5,rfl⟩:=arr6 hb4;have z0:w.cell? ⟨b,0,none⟩ = some u0:=(by simp [World.cell?,hb3]);have z1:w.cell? ⟨b,1,none⟩ = some u1:=(by simp [World.cell?,hb3]);have z2:w.cell? ⟨b,2,none⟩ = some u2:=(by simp [World.cell?,hb3]);have z3:w.cell? ⟨b,3,none⟩ = some u3:=(by simp [World.cell?,hb3]);have z4:w.cell? ⟨b,4,none⟩ = some u4:=(by simp [World.cell?,hb3]);have z5:w.cell? ⟨b,5,none⟩ = some u5:=(by simp [World.cell?,hb3]);have zf:∀ o,w.frozen? ⟨b,o,none⟩ = false:=fun o=>(by simp [World.frozen?,hb3]);exact ⟨((((((w.setCell ⟨b,0,none⟩ (.int .i64 (1 + kz))).setCell ⟨b,1,none⟩ (.int .i64 (1 + pr))).setCell ⟨b,2,none⟩ (.int .i64 0)).setCell ⟨b,3,none⟩ (.int .i64 0)).setCell ⟨b,4,none⟩ (.int .i64 0)).setCell ⟨b,5,none⟩ (.slice none 0 0)),by simp [execOp,go_sem,e0,z0,z1,z2,z3,z4,z5,zf,h9,k9],trivial,fun j v _ h=>h.keep _,(((((hH.glob.1.setCell hb2 _).setCell hb2 _).setCell hb2 _).setCell hb2 _).setCell hb2 _).setCell hb2 _,RV.Pend.filled hb1 hb2 (by have q0:=Go.heap_setCell_same w b 0 _ _ (.int .i64 (1 + kz)) hb3;have q1:=Go.heap_setCell_same _ b 1 _ _ (.int .i64 (1 + pr)) q0;have q2:=Go.heap_setCell_same _ b 2 _ _ (.int .i64 0) q1;have q3:=Go.heap_setCell_same _ b 3 _ _ (.int .i64 0) q2;have q4:=Go.heap_setCell_same _ b 4 _ _ (.int .i64 0) q3;have q5:=Go.heap_setCell_same _ b 5 _ _ (.slice none 0 0) q4;simpa using q5) (by decide) _⟩)) ?_
  exact RV.AllDo.nil
 ·intro γ w5 L9 hL hI9 hG9
  obtain ⟨b3,cs,hb1,hb2,hb3,_,hb5⟩:=hG9.2 (hL 9 (by decide))
  rw [hb5 (hL 10 (by decide))] at hb3
  have hB5:=hG9.1
  clear hL hb5 hI9 hG9
  simp only [RV.putL,Act.put,List.setIfInBounds_toArray,List.set_cons_zero,List.set_cons_succ,Nat.reduceAdd]
  rw [hb1]
  obtain ⟨X1,hX1⟩:∃ X:World,X = w5:=⟨_,rfl⟩
  rw [<- hX1] at hB5 hb3 ⊢
  have C3:Hid (Cells X1 b3 [.int .i64 (1 + kz),.int .i64 (1 + pr),.int .i64 0,.int .i64 0,.int .i64 0,.slice none 0 0]):=fun i v e=>⟨by simp [World.cell?,hb3];exact e,by simp [World.frozen?,hb3]⟩
  have C1':Hid (Cells X1 ba [.int .i64 k,.int .i64 r,.int .i64 hx,.int .i64 hy,.int .i64 hz,.slice o Ls.length c]):=Cells.step C1.out hB5
  have C2':Hid (Cells X1 bs [.int .i64 0,.int .i64 0,.int .i64 0,.int .i64 0,.int .i64 0,.slice none 0 0]):=Cells.step C2.out hB5
  have hE:Hid _:=b_step hD.out hB5
  have hV2:bs < V.heap.size:=World.block_lt_of_cell? _ _ (C2.out 0 _ rfl).1
  have hV1:ba < V.heap.size:=World.block_lt_of_cell? _ _ (C1.out 0 _ rfl).1
  have hws:=hD.out.size
  clear hX1 hb1 hb3 hB5 c0 c1 C1 C2 hD P1 P2
  go_upto_region 2 with fail
  have md2:=(C1'.out 2 _ rfl).1
  have md3:=(C1'.out 3 _ rfl).1
  have md4:=(C1'.out 4 _ rfl).1
  have s2:=(C3.out 2 _ rfl).1
  have s3:=(C3.out 3 _ rfl).1
  have s4:=(C3.out 4 _ rfl).1
  have t2:=(C3.out 2 _ rfl).2
  have t3:=(C3.out 3 _ rfl).2
  have t4:=(C3.out 4 _ rfl).2
  refine RV.rs [.some (.pointer (some ⟨ba,2,none⟩)),.some (.pointer (some ⟨ba,2,none⟩)),.some (.int .i64 hx),.some (.int .i64 px),.some (.int .i64 (1 + px)),.some (.pointer (some ⟨ba,2,none⟩)),.some (.pointer (some ⟨ba,3,none⟩)),.some (.int .i64 hy),.some (.int .i64 py),.some (.int .i64 (1 + py)),.some (.pointer (some ⟨ba,2,none⟩)),.some (.pointer (some ⟨ba,4,none⟩)),.some (.int .i64 hz),.some (.int .i64 pz),.some (.int .i64 (1 + pz)),.some (.agg #[.int .i64 (1 + px),.int .i64 (1 + py),.int .i64 (1 + pz)]),.some (.pointer (some ⟨b3,2,none⟩)),none] [16,17,18,19,20,21,22,23,24,25,26,27,28,29,30,31,32,0] [(1,.pointer (some ⟨ba,0,none⟩)),(3,.pointer (some ⟨b3,0,none⟩))] (fun γ L w9=>(L 17 = false/\Below X1.heap.size X1 w9) \/ (L 17 = true/\∃ w,Below X1.heap.size X1 w/\w9 = (((w.setCell ⟨b3,2,none⟩ (.int .i64 (1 + px))).setCell ⟨b3,2 + 1,none⟩ (.int .i64 (1 + py))).setCell ⟨b3,2 + 2,none⟩ (.int .i64 (1 + pz))))) ⟨rfl,rfl,trivial⟩ ?_ ?_ ?_
  ·exact Or.inl ⟨rfl,(Below.refl _ X1).drew⟩
  ·intro D WA Z hD hWA hZ T
   simp only [RV.Outs,RV.Slots,Nat.reduceAdd] at T
   iterate 3 first
    | (refine RV.cc _ (RV.pu T (fun γ v L w hl h=>by rw [RV.mn (L:=L) (i:=_) (j:=17) (by decide)];exact h) (fun γ L a w hH hl h9 k9=>⟨_,?_,rfl⟩)) ?_;· simp [execOp,go_sem,h9])
    | (refine RV.cc _ (RV.pu T (fun γ v L w hl h=>by rw [RV.mn (L:=L) (i:=_) (j:=17) (by decide)];exact h) (fun γ L a w hH hl h9 k9=>⟨_,?_,rfl⟩)) ?_;· simp [Region.binds] at k9;simp [execOp,go_sem,h9,k9])
    | (refine RV.cc _ (RV.pu T (fun γ v L w hl h=>by rw [RV.mn (L:=L) (i:=_) (j:=17) (by decide)];exact h) (fun γ L a w hH hl h9 k9=>⟨_,?_,rfl⟩)) ?_;· have hB9:=early9 hH.glob (RV.ny hH (RV.wt (j:=17) hWA (by kernel_rfl)) hl);have q0:=c_after hB9 md2;simp [Region.binds] at k9;simp [execOp,go_sem,h9,k9,q0])
   refine RV.cc _ (RV.dc (fun γ L a w hH hl hA=>by have h9:=T γ L a w hH;have k9:=hA;simp [Region.binds] at k9;have hB9:=early9 hH.glob (RV.ny hH (RV.wt (j:=17) (i:=3) hWA (by kernel_rfl)) hl);exact ⟨93,#[.int .i64 hx,.int .i64 65536],by simp [go_sem,h9,k9],Calls.mono (P3.out w) (by rintro e w2 ⟨rfl,hb⟩;exact ⟨_,rfl,rfl,fun j v _ h=>h.keep _,Or.inl ⟨by rw [RV.mn (L:=L) (i:=3) (j:=17) (by decide)];exact RV.ny hH (RV.wt (j:=17) (i:=3) hWA (by kernel_rfl)) hl,hB9.trans (hb.mono hB9.size)⟩⟩)⟩)) ?_
   iterate 4 first
    | (refine RV.cc _ (RV.pu T (fun γ v L w hl h=>by rw [RV.mn (L:=L) (i:=_) (j:=17) (by decide)];exact h) (fun γ L a w hH hl h9 k9=>⟨_,?_,rfl⟩)) ?_;· simp [execOp,go_sem,h9])
    | (refine RV.cc _ (RV.pu T (fun γ v L w hl h=>by rw [RV.mn (L:=L) (i:=_) (j:=17) (by decide)];exact h) (fun γ L a w hH hl h9 k9=>⟨_,?_,rfl⟩)) ?_;· simp [Region.binds] at k9;simp [execOp,go_sem,h9,k9,n3])
    | (refine RV.cc _ (RV.pu T (fun γ v L w hl h=>by rw [RV.mn (L:=L) (i:=_) (j:=17) (by decide)];exact h) (fun γ L a w hH hl h9 k9=>⟨_,?_,rfl⟩)) ?_;· have hB9:=early9 hH.glob (RV.ny hH (RV.wt (j:=17) hWA (by kernel_rfl)) hl);have q0:=c_after hB9 md3;simp [Region.binds] at k9;simp [execOp,go_sem,h9,k9,q0])
   refine RV.cc _ (RV.dc (fun γ L a w hH hl hA=>by have h9:=T γ L a w hH;have k9:=hA;simp [Region.binds] at k9;have hB9:=early9 hH.glob (RV.ny hH (RV.wt (j:=17) (i:=8) hWA (by kernel_rfl)) hl);exact ⟨93,#[.int .i64 hy,.int .i64 65536],by simp [go_sem,h9,k9],Calls.mono (P4.out w) (by rintro e w2 ⟨rfl,hb⟩;exact ⟨_,rfl,rfl,fun j v _ h=>h.keep _,Or.inl ⟨by rw [RV.mn (L:=L) (i:=8) (j:=17) (by decide)];exact RV.ny hH (RV.wt (j:=17) (i:=8) hWA (by kernel_rfl)) hl,hB9.trans (hb.mono hB9.size)⟩⟩)⟩)) ?_
   iterate 4 first
    | (refine RV.cc _ (RV.pu T (fun γ v L w hl h=>by rw [RV.mn (L:=L) (i:=_) (j:=17) (by decide)];exact h) (fun γ L a w hH hl h9 k9=>⟨_,?_,rfl⟩)) ?_;· simp [execOp,go_sem,h9])
    | (refine RV.cc _ (RV.pu T (fun γ v L w hl h=>by rw [RV.mn (L:=L) (i:=_) (j:=17) (by decide)];exact h) (fun γ L a w hH hl h9 k9=>⟨_,?_,rfl⟩)) ?_;· simp [Region.binds] at k9;simp [execOp,go_sem,h9,k9,n4])
    | (refine RV.cc _ (RV.pu T (fun γ v L w hl h=>by rw [RV.mn (L:=L) (i:=_) (j:=17) (by decide)];exact h) (fun γ L a w hH hl h9 k9=>⟨_,?_,rfl⟩)) ?_;· have hB9:=early9 hH.glob (RV.ny hH (RV.wt (j:=17) hWA (by kernel_rfl)) hl);have q0:=c_after hB9 md4;simp [Region.binds] at k9;simp [execOp,go_sem,h9,k9,q0])
   refine RV.cc _ (RV.dc (fun γ L a w hH hl hA=>by have h9:=T γ L a w hH;have k9:=hA;simp [Region.binds] at k9;have hB9:=early9 hH.glob (RV.ny hH (RV.wt (j:=17) (i:=13) hWA (by kernel_rfl)) hl);exact ⟨93,#[.int .i64 hz,.int .i64 65536],by simp [go_sem,h9,k9],Calls.mono (P5.out w) (by rintro e w2 ⟨rfl,hb⟩;exact ⟨_,rfl,rfl,fun j v _ h=>h.keep _,Or.inl ⟨by rw [RV.mn (L:=L) (i:=13) (j:=17) (by decide)];exact RV.ny hH (RV.wt (j:=17) (i:=13) hWA (by kernel_rfl)) hl,hB9.trans (hb.mono hB9.size)⟩⟩)⟩)) ?_
   iterate 3 first
    | (refine RV.cc _ (RV.pu T (fun γ v L w hl h=>by rw [RV.mn (L:=L) (i:=_) (j:=17) (by decide)];exact h) (fun γ L a w hH hl h9 k9=>⟨_,?_,rfl⟩)) ?_;· simp [execOp,go_sem,h9])
    | (refine RV.cc _ (RV.pu T (fun γ v L w hl h=>by rw [RV.mn (L:=L) (i:=_) (j:=17) (by decide)];exact h) (fun γ L a w hH hl h9 k9=>⟨_,?_,rfl⟩)) ?_;· simp [Region.binds] at k9;simp [execOp,go_sem,h9,k9,n5])
   refine RV.cc _ (RV.does_store (fun γ L a w hH hl hA=>by have h9:=T γ L a w hH;have k9:=hA;simp [Region.binds] at k9;have hB9:=early9 hH.glob hl;have z0:=c_after hB9 s2;have zf0:=f_after hB9 s2 t2;have z1:=c_after hB9 s3;have zf1:=f_after hB9 s3 t3;have z2:=c_after hB9 s4;have zf2:=f_after hB9 s4 t4;exact ⟨(((w.setCell ⟨b3,2,none⟩ (.int .i64 (1 + px))).setCell ⟨b3,2 + 1,none⟩ (.int .i64 (1 + py))).setCell ⟨b3,2 + 2,none⟩ (.int .i64 (1 + pz))),by simp [execOp,go_sem,z0,zf0,z1,zf1,z2,zf2,h9,k9],trivial,fun j v _ h=>h.keep _,Or.inr ⟨RV.more_self,w,hB9,rfl⟩⟩)) ?_
   exact RV.AllDo.nil
  ·intro γ w5 L9 hL hI9 hG9
   obtain ⟨w8,hb8,rfl⟩:=late9 hG9 (hL 17 (by decide))
   clear hL hI9 hG9
   simp only [RV.putL,Act.put,List.setIfInBounds_toArray,List.set_cons_zero,List.set_cons_succ]
   have D3:=Cells.set (Cells.set (Cells.set (Cells.step C3.out hb8) 2 (.int .i64 (1 + px)) (by simp)) 3 (.int .i64 (1 + py)) (by simp)) 4 (.int .i64 (1 + pz)) (by simp)
   have hne:b3 ≠ bs:=by omega
   have hna:b3 ≠ ba:=by omega
   have HS:RS w0 (((w8.setCell ⟨b3,2,none⟩ (.int .i64 (1 + px))).setCell ⟨b3,3,none⟩ (.int .i64 (1 + py))).setCell ⟨b3,4,none⟩ (.int .i64 (1 + pz))) ba bs b3 [.int .i64 k,.int .i64 r,.int .i64 hx,.int .i64 hy,.int .i64 hz,.slice o Ls.length c] (.int .i64 (1 + kz)) (.int .i64 (1 + pr)) (.int .i64 (1 + px)) (.int .i64 (1 + py)) (.int .i64 (1 + pz)) (.slice none 0 0) []:=
    ⟨(((Cells.step C1'.out hb8).put (Ne.symm hna) _ _).put (Ne.symm hna) _ _).put (Ne.symm hna) _ _,(((Cells.step C2'.out hb8).put (Ne.symm hne) _ _).put (Ne.symm hne) _ _).put (Ne.symm hne) _ _,D3,World.ownsRow_nil _ _ _ _,(fun e=>by cases e),(fun e=>by cases e),(fun e=>by cases e),(((b_step hE.out hb8).setCell (show w0.heap.size <= b3 by omega) _).setCell (show w0.heap.size <= b3 by omega) _).setCell (show w0.heap.size <= b3 by omega) _,(by omega),Ne.symm hna,Ne.symm hne,⟨_,rfl⟩⟩
   obtain ⟨X2,hX2⟩:∃ X:World,X = (((w8.setCell ⟨b3,2,none⟩ (.int .i64 (1 + px))).setCell ⟨b3,3,none⟩ (.int .i64 (1 + py))).setCell ⟨b3,4,none⟩ (.int .i64 (1 + pz))):=⟨_,rfl⟩
   rw [<- hX2] at HS ⊢
   clear hX2 hb8 md2 md3 md4 s2 s3 s4 t2 t3 t4 D3 C1' C2' C3 hE n1 n2 n3 n4 n5 P3 P4 P5 hV1 hV2 hws
   have HG0:Hid (1 <= 1 + pr/\1 + pr <= 16384):=⟨by omega,by omega⟩
   have HGx:Hid (1 <= 1 + px/\1 + px <= 65536):=⟨by omega,by omega⟩
   have HGy:Hid (1 <= 1 + py/\1 + py <= 65536):=⟨by omega,by omega⟩
   have HGz:Hid (1 <= 1 + pz/\1 + pz <= 65536):=⟨by omega,by omega⟩
   clear l2 u2 l3 u3 l4 u4 l5 u5
   have HS':Hid _:=HS
   clear HS
   by_cases hk3:kz = 3
   ·subst hk3
    have s0:=(HS'.out.c3 0 _ rfl).1
    rw [show (1:Int) + 3 = 4 from rfl] at s0
    go_wp2_with (fail)
    clear s0
    go_loopg [4] 12 (fun gm s wr=>∃ i:Nat,s = .int .i64 (i:Int)/\i <= Ls.length/\i <= 12/\gm = 12 - i/\Hid (∃ u,RS w0 wr ba bs b3 [.int .i64 k,.int .i64 r,.int .i64 hx,.int .i64 hy,.int .i64 hz,.slice o Ls.length c] (.int .i64 4) (.int .i64 (1 + pr)) (.int .i64 (1 + px)) (.int .i64 (1 + py)) (.int .i64 (1 + pz)) u ((Ls.take i).map partP)))
    case atStart=>exact ⟨0,rfl,Nat.zero_le _,by omega,rfl,_,HS'.out⟩
    case round =>
     obtain ⟨i,rfl,hi,hi2,hgm,HR⟩:=hrel
     have HG1:Hid _:=hgm
     clear hgm
     obtain ⟨u,HR'⟩:=HR.out
     have HQ:Hid _:=HR'
     clear HR' HR
     have m5:=(HQ.out.c1 5 _ rfl).1
     by_cases hit:i < Ls.length
     ·by_cases h12:i < 12
      ·obtain ⟨g,off,e9,x0,x1,x2⟩:=HCL.out i hit
       have x0:=c_after HQ.out.below x0
       have x1:=c_after HQ.out.below x1
       have x2:=c_after HQ.out.below x2
       subst e9
       have HP:Hid ((pt Ls i).fits):=HFIT.out _ (pt_mem hit)
       have HT:Hid ((Ls.take i).map partP ++ [partP (pt Ls i)] = (Ls.take (i + 1)).map partP):=by show _ = _;rw [take_pt hit,List.map_append];rfl
       obtain ⟨qx,ex,PX'⟩:=part_ex (pt Ls i).x HP.out.1
       obtain ⟨qy,ey,PY'⟩:=part_ex (pt Ls i).y HP.out.2.1
       obtain ⟨qz,ez,PZ'⟩:=part_ex (pt Ls i).z HP.out.2.2
       have HE:Hid (partP (pt Ls i) = ⟨qx,qy,qz⟩):=by show _ = _;rw [<- ex,<- ey,<- ez];rfl
       have PX:Hid _:=PX'
       have PY:Hid _:=PY'
       have PZ:Hid _:=PZ'
       clear PX' PY' PZ' ex ey ez HP
       generalize hlx:(pt Ls i).x = lx at *
       generalize hly:(pt Ls i).y = ly at *
       generalize hlz:(pt Ls i).z = lz at *
       clear hlx hly hlz
       have hn:((Ls.take i).map partP).length = i:=by simp;omega
       generalize hM:(Ls.take i).map partP = M at *
       have HM:Hid _:=hM
       clear hM
       go_upto_region 7 with fail
       go_upto_region 8 with fail
       obtain ⟨W7,hW7⟩:∃ X:World,X = wr.alloc (.cells #[.int .i64 lx,.int .i64 ly,.int .i64 lz] 45):=⟨_,rfl⟩
       obtain ⟨b5,hb5⟩:∃ b,b = wr.heap.size:=⟨_,rfl⟩
       have HQ7:Hid (RS w0 W7 ba bs b3 [.int .i64 k,.int .i64 r,.int .i64 hx,.int .i64 hy,.int .i64 hz,.slice (some ⟨g,off,none⟩) Ls.length c] (.int .i64 4) (.int .i64 (1 + pr)) (.int .i64 (1 + px)) (.int .i64 (1 + py)) (.int .i64 (1 + pz)) u M):=by rw [hW7];exact HQ.out.step (n_after _ _)
       have bx:Box3 W7 b5 ⟨lx,ly,lz⟩:=by rw [hW7,hb5];exact Box3.new wr lx ly lz _
       rw [<- hW7,<- hb5]
       clear hW7 hb5 HQ x0 x1 x2 m5
       obtain ⟨k0,k1,k2,_,_,_⟩:=bx
       have q5:=(HQ7.out.c3 5 _ rfl).1
       obtain ⟨i0,hii,hiz,hisz,hib⟩:=info_parts point_info
       have HI:Hid _:=And.intro hii (And.intro hiz (And.intro hisz hib))
       clear hii hiz hisz hib
       refine RV.rs [.some (.pointer (some ⟨b3,5,none⟩)),.some (u),.some (.pointer (some ⟨b5,0,none⟩)),.some (.int .i64 lx),.some (.int .i64 qx),.some (.pointer (some ⟨b5,1,none⟩)),.some (.int .i64 ly),.some (.int .i64 qy),.some (.pointer (some ⟨b5,2,none⟩)),.some (.int .i64 lz),.some (.int .i64 qz),.some (.agg #[.int .i64 qx,.int .i64 qy,.int .i64 qz]),none,none,.some (.pointer (some ⟨b3,5,none⟩)),none] [52,53,54,55,56,57,58,59,60,61,62,63,64,65,66,0] [(3,.pointer (some ⟨b3,0,none⟩)),(5,.pointer (some ⟨b5,0,none⟩))] (fun γ L w=>A8 12 13 15 W7 w0.heap.size u b3 5 M.length (fl3 M) [.int .i64 qx,.int .i64 qy,.int .i64 qz] γ L w) ⟨rfl,rfl,trivial⟩ ?_ ?_ ?_
       ·exact A8.start rfl rfl rfl (Below.refl _ W7).drew
       ·intro D WA Z hD hWA hZ T
        simp only [RV.Outs,RV.Slots,Nat.reduceAdd] at T
        (refine RV.cc _ (RV.pu T (fun γ v L w hl h=>A8.other h _ (by decide) (by decide) (by decide)) (fun γ L a w hH hl h9 k9=>⟨_,?_,rfl⟩)) ?_;· simp [execOp,go_sem,h9])
        refine RV.cc _ (RV.dp (fun γ v L w hl h=>A8.other h _ (by decide) (by decide) (by decide)) (fun γ L a w hH hl hA=>by have h9:=T γ L a w hH;have k9:=hA;simp [Region.binds] at k9;have z0:=c_after (A8.early hH.glob (RV.ny hH (RV.wt (j:=13) (i:=1) hWA (by kernel_rfl)) hl)).2.1 q5;exact ⟨_,by simp [execOp,go_sem,h9,z0,k9],rfl⟩)) ?_
        (refine RV.cc _ (RV.pu T (fun γ v L w hl h=>A8.other h _ (by decide) (by decide) (by decide)) (fun γ L a w hH hl h9 k9=>⟨_,?_,rfl⟩)) ?_;· simp [execOp,go_sem,h9])
        refine RV.cc _ (RV.dp (fun γ v L w hl h=>A8.other h _ (by decide) (by decide) (by decide)) (fun γ L a w hH hl hA=>by have h9:=T γ L a w hH;have k9:=hA;simp [Region.binds] at k9;have z0:=c_after (A8.early hH.glob (RV.ny hH (RV.wt (j:=13) (i:=12) hWA (by kernel_rfl)) (RV.ny hH (RV.wt (j:=12) (i:=11) hWA (by kernel_rfl)) (RV.ny hH (RV.wt (j:=11) (i:=4) hWA (by kernel_rfl)) (RV.ny hH (RV.wt (j:=4) (i:=3) hWA (by kernel_rfl)) hl))))).2.1 k0;exact ⟨_,by simp [execOp,go_sem,h9,z0,k9],rfl⟩)) ?_
        refine RV.cc _ (RV.dc (fun γ L a w hH hl hA=>by have h9:=T γ L a w hH;have k9:=hA;simp [Region.binds] at k9;exact ⟨94,#[.int .i64 lx,.int .i64 65536],by simp [go_sem,h9,k9],Calls.mono (PX.out w) (by rintro e w2 ⟨rfl,rfl⟩;exact ⟨_,rfl,rfl,fun _ _ _ h=>h,A8.other hH.glob _ (by decide) (by decide) (by decide)⟩)⟩)) ?_
        (refine RV.cc _ (RV.pu T (fun γ v L w hl h=>A8.other h _ (by decide) (by decide) (by decide)) (fun γ L a w hH hl h9 k9=>⟨_,?_,rfl⟩)) ?_;· simp [execOp,go_sem,h9])
        refine RV.cc _ (RV.dp (fun γ v L w hl h=>A8.other h _ (by decide) (by decide) (by decide)) (fun γ L a w hH hl hA=>by have h9:=T γ L a w hH;have k9:=hA;simp [Region.binds] at k9;have z0:=c_after (A8.early hH.glob (RV.ny hH (RV.wt (j:=13) (i:=12) hWA (by kernel_rfl)) (RV.ny hH (RV.wt (j:=12) (i:=11) hWA (by kernel_rfl)) (RV.ny hH (RV.wt (j:=11) (i:=7) hWA (by kernel_rfl)) (RV.ny hH (RV.wt (j:=7) (i:=6) hWA (by kernel_rfl)) hl))))).2.1 k1;exact ⟨_,by simp [execOp,go_sem,h9,z0,k9],rfl⟩)) ?_
        refine RV.cc _ (RV.dc (fun γ L a w hH hl hA=>by have h9:=T γ L a w hH;have k9:=hA;simp [Region.binds] at k9;exact ⟨94,#[.int .i64 ly,.int .i64 65536],by simp [go_sem,h9,k9],Calls.mono (PY.out w) (by rintro e w2 ⟨rfl,rfl⟩;exact ⟨_,rfl,rfl,fun _ _ _ h=>h,A8.other hH.glob _ (by decide) (by decide) (by decide)⟩)⟩)) ?_
        (refine RV.cc _ (RV.pu T (fun γ v L w hl h=>A8.other h _ (by decide) (by decide) (by decide)) (fun γ L a w hH hl h9 k9=>⟨_,?_,rfl⟩)) ?_;· simp [execOp,go_sem,h9])
        refine RV.cc _ (RV.dp (fun γ v L w hl h=>A8.other h _ (by decide) (by decide) (by decide)) (fun γ L a w hH hl hA=>by have h9:=T γ L a w hH;have k9:=hA;simp [Region.binds] at k9;have z0:=c_after (A8.early hH.glob (RV.ny hH (RV.wt (j:=13) (i:=12) hWA (by kernel_rfl)) (RV.ny hH (RV.wt (j:=12) (i:=11) hWA (by kernel_rfl)) (RV.ny hH (RV.wt (j:=11) (i:=10) hWA (by kernel_rfl)) (RV.ny hH (RV.wt (j:=10) (i:=9) hWA (by kernel_rfl)) hl))))).2.1 k2;exact ⟨_,by simp [execOp,go_sem,h9,z0,k9],rfl⟩)) ?_
        refine RV.cc _ (RV.dc (fun γ L a w hH hl hA=>by have h9:=T γ L a w hH;have k9:=hA;simp [Region.binds] at k9;exact ⟨94,#[.int .i64 lz,.int .i64 65536],by simp [go_sem,h9,k9],Calls.mono (PZ.out w) (by rintro e w2 ⟨rfl,rfl⟩;exact ⟨_,rfl,rfl,fun _ _ _ h=>h,A8.other hH.glob _ (by decide) (by decide) (by decide)⟩)⟩)) ?_
        (refine RV.cc _ (RV.pu T (fun γ v L w hl h=>A8.other h _ (by decide) (by decide) (by decide)) (fun γ L a w hH hl h9 k9=>⟨_,?_,rfl⟩)) ?_;· simp [Region.binds] at k9;simp [execOp,go_sem,h9,k9])
        refine RV.cc _ (RV.does_step (fun γ L a w hH hl hA=>by have h9:=T γ L a w hH;have k9:=hA;simp [Region.binds] at k9;exact ⟨.slice (some ⟨w.heap.size,0,none⟩) 1 1,w.alloc (.cells #[.int .i64 qx,.int .i64 qy,.int .i64 qz] 45),by simp [execOp,go_sem,h9,k9],trivial,fun j v _ h=>h.keep _,A8.lay hH.glob (RV.ny hH (RV.wt (j:=13) (i:=12) hWA (by kernel_rfl)) hl) (by decide) (by decide)⟩)) ?_
        refine RV.cc _ (RV.does_step (fun γ L a w hH hl hA=>by have h9:=T γ L a w hH;have k9:=hA;simp [Region.binds] at k9;have l1:L 12 = true:=hA ⟨12,.data⟩ (by simp) rfl;have e1:=hH.slot 12 63 (by rw [<- hD];rfl) l1;obtain ⟨y1,y2,y3⟩:=A8.early hH.glob hl;obtain ⟨g9,t1,t2⟩:=y3 l1;rw [t1] at e1;obtain ⟨v9,w9,t3,t4,t5⟩:=exec_append (P:=Tryz.prog) (w:=w) (a:=a) (.tmp 52) (.tmp 63) 26 26 w0.heap.size 45 i0 _ 3 24 Tryz.underlying26 HI.out.1 HI.out.2.1 HI.out.2.2.1 HI.out.2.2.2 rfl (by decide) u M.length (fl3 M) (by simp [go_sem,h9,k9]) (own_below HQ7.out.row y2) ⟨g9,0,none⟩ 1 1 [.int .i64 qx,.int .i64 qy,.int .i64 qz] (by simp [go_sem,e1]) rfl (news_at t2) (by intro u hu;simp at hu;rcases hu with rfl | rfl | rfl <;> rfl) (by unfold maxLen;omega) (by omega) (Nat.le_trans HQ7.out.below.size y2.size);exact ⟨v9,w9,t3 _ rfl rfl,trivial,fun j v _ h=>h.keep _,A8.app y1 (by decide) t4 ((Grew.below y2 _).trans t5)⟩)) ?_
        (refine RV.cc _ (RV.pu T (fun γ v L w hl h=>A8.other h _ (by decide) (by decide) (by decide)) (fun γ L a w hH hl h9 k9=>⟨_,?_,rfl⟩)) ?_;· simp [execOp,go_sem,h9])
        refine RV.cc _ (RV.does_store (fun γ L a w hH hl hA=>by have h9:=T γ L a w hH;have k9:=hA;simp [Region.binds] at k9;have l0:L 13 = true:=hA ⟨13,.data⟩ (by simp) rfl;have e0:=hH.slot 13 64 (by rw [<- hD];rfl) l0;have y:=A8.mid hH.glob (hA ⟨13,.data⟩ (by simp) rfl) hl;have z:=(Cells.grown HQ7.out.c3 y.2.grown HQ7.out.n3) 5 _ rfl;have z0:=z.1;have z1:=z.2;obtain ⟨o9,l9,c9,e9⟩:=own_slice y.1;exact ⟨w.setCell ⟨b3,5,none⟩ (γ 13),by simp [execOp,go_sem,e0,z0,z1,e9,h9,k9],trivial,fun j v _ h=>h.keep _,A8.store hH.glob (hA ⟨13,.data⟩ (by simp) rfl) hl (by decide) _⟩)) ?_
        exact RV.AllDo.nil
       ·intro γ w5 L9 hL hI9 hG9
        obtain ⟨w8b,y1,y2,y3⟩:=A8.done hG9 (hL 15 (by decide))
        clear hL hI9 hG9
        simp only [RV.putL,Act.put,List.setIfInBounds_toArray,List.set_cons_zero,List.set_cons_succ,Nat.reduceAdd]
        have HX:=HQ7.out.app (p:=⟨qx,qy,qz⟩) y1 y2
        rw [<- y3,<- HE.out,HT.out] at HX
        have HX:Hid _:=HX
        clear y1 y2 y3 q5 k0 k1 k2 PX PY PZ HQ7
        go_wp2_with (fail)
        go_roundg (12 - (i + 1))
        case measure=>have:=HG1.out;omega
        case rel=>exact ⟨i + 1,by go_num,by omega,by omega,rfl,_,HX.out⟩
      ·have h12':i = 12:=by omega
       clear h12
       obtain ⟨ou,lu,cu,hu9⟩:=own_slice HQ.out.row
       subst hu9
       have HC:Hid _:=fun w' (h:Lies w' (.slice ou lu cu) ((Ls.take i).map partP))=>rcheck_any ⟨4,1 + pr,⟨1 + px,1 + py,1 + pz⟩,(Ls.take i).map partP⟩ (.slice ou lu cu) w' h
       unfold Sh.v at HC
       dsimp only at HC
       generalize (Ls.take i).map partP = M at *
       have HCK:Hid (checkP ⟨4,1 + pr,⟨1 + px,1 + py,1 + pz⟩,M⟩ = checkP ⟨4,1 + pr,⟨1 + px,1 + py,1 + pz⟩,M⟩):=rfl
       obtain ⟨ck,hck⟩:∃ ck,checkP ⟨4,1 + pr,⟨1 + px,1 + py,1 + pz⟩,M⟩ = ck:=⟨_,rfl⟩
       rw [hck] at HC
       clear HCK
       have HK:Hid _:=hck
       clear hck
       have s0:=(HQ.out.c3 0 _ rfl).1
       have s1:=(HQ.out.c3 1 _ rfl).1
       have s2:=(HQ.out.c3 2 _ rfl).1
       have s3:=(HQ.out.c3 3 _ rfl).1
       have s4:=(HQ.out.c3 4 _ rfl).1
       have s5:=(HQ.out.c3 5 _ rfl).1
       go_wp2_with (fail)
       refine Calls.mono (HC.out _ (Lies.of_row HQ.out.row)) ?_
       rintro e Y ⟨rfl,hb⟩
       have HQ:Hid (RS w0 Y ba bs b3 [.int .i64 k,.int .i64 r,.int .i64 hx,.int .i64 hy,.int .i64 hz,.slice o Ls.length c] (.int .i64 4) (.int .i64 (1 + pr)) (.int .i64 (1 + px)) (.int .i64 (1 + py)) (.int .i64 (1 + pz)) (.slice ou lu cu) M):=HQ.out.step hb
       clear hb HC s0 s1 s2 s3 s4 s5 m5
       by_cases hc0:ck = 0
       ·subst hc0
        have s0:=(HQ.out.c3 0 _ rfl).1
        have r0:=(HQ.out.c2 0 _ rfl).1
        have f0:=(HQ.out.c2 0 _ rfl).2
        have s1:=(HQ.out.c3 1 _ rfl).1
        have r1:=(HQ.out.c2 1 _ rfl).1
        have f1:=(HQ.out.c2 1 _ rfl).2
        have s2:=(HQ.out.c3 2 _ rfl).1
        have r2:=(HQ.out.c2 2 _ rfl).1
        have f2:=(HQ.out.c2 2 _ rfl).2
        have s3:=(HQ.out.c3 3 _ rfl).1
        have r3:=(HQ.out.c2 3 _ rfl).1
        have f3:=(HQ.out.c2 3 _ rfl).2
        have s4:=(HQ.out.c3 4 _ rfl).1
        have r4:=(HQ.out.c2 4 _ rfl).1
        have f4:=(HQ.out.c2 4 _ rfl).2
        have s5:=(HQ.out.c3 5 _ rfl).1
        have r5:=(HQ.out.c2 5 _ rfl).1
        have f5:=(HQ.out.c2 5 _ rfl).2
        have DN:Hid _:=HQ.out.ns
        go_wp2_with (fail)
        refine bodyPost_ret (v:=.agg #[.int .i64 4,.int .i64 (1 + pr),.int .i64 (1 + px),.int .i64 (1 + py),.int .i64 (1 + pz),.slice ou lu cu]) (by simp [results,Tryz.results56,go_sem,r0,r1,r2,r3,r4,r5]) rfl ?_
        exact ⟨⟨4,1 + pr,⟨1 + px,1 + py,1 + pz⟩,M⟩,.slice ou lu cu,rfl,⟨ownsRow_setCell_other (ownsRow_setCell_other (ownsRow_setCell_other (ownsRow_setCell_other (ownsRow_setCell_other (ownsRow_setCell_other (HQ.out.row) DN.out _) DN.out _) DN.out _) DN.out _) DN.out _) DN.out _,(((((HQ.out.below.setCell hsl _).setCell hsl _).setCell hsl _).setCell hsl _).setCell hsl _).setCell hsl _⟩,good_hull HG0.out HGx.out HGy.out HGz.out HK.out⟩
       ·have hce:(ck == 0) = false:=beq_eq_false_iff_ne.2 hc0
        have g0:=(HQ.out.c3 0 _ rfl).1
        have g5:=(HQ.out.c3 5 _ rfl).1
        have h0:=(HQ.out.c3 0 _ rfl).2
        have h5:=(HQ.out.c3 5 _ rfl).2
        go_upto_region 12 with fail
        have E3:=Cells.set (Cells.set HQ.out.c3 0 (.int .i64 3) (by simp)) 5 (.slice none 0 0) (by simp)
        have E2:=Cells.put (Cells.put HQ.out.c2 HQ.out.d2 0 (.int .i64 3)) HQ.out.d2 5 (.slice none 0 0)
        have E4:Below w0.heap.size w0 ((Y.setCell ⟨b3,0,none⟩ (.int .i64 3)).setCell ⟨b3,5,none⟩ (.slice none 0 0)):=(HQ.out.below.setCell HQ.out.l3 _).setCell HQ.out.l3 _
        obtain ⟨Y2,hY2⟩:∃ X:World,X = (Y.setCell ⟨b3,0,none⟩ (.int .i64 3)).setCell ⟨b3,5,none⟩ (.slice none 0 0):=⟨_,rfl⟩
        rw [<- hY2] at E3 E2 E4 ⊢
        clear hY2 g0 g5 h0 h5 hce hc0
        have E4:Hid _:=E4
        have s0:=(E3 0 _ rfl).1
        have r0:=(E2 0 _ rfl).1
        have f0:=(E2 0 _ rfl).2
        have s1:=(E3 1 _ rfl).1
        have r1:=(E2 1 _ rfl).1
        have f1:=(E2 1 _ rfl).2
        have s2:=(E3 2 _ rfl).1
        have r2:=(E2 2 _ rfl).1
        have f2:=(E2 2 _ rfl).2
        have s3:=(E3 3 _ rfl).1
        have r3:=(E2 3 _ rfl).1
        have f3:=(E2 3 _ rfl).2
        have s4:=(E3 4 _ rfl).1
        have r4:=(E2 4 _ rfl).1
        have f4:=(E2 4 _ rfl).2
        have s5:=(E3 5 _ rfl).1
        have r5:=(E2 5 _ rfl).1
        have f5:=(E2 5 _ rfl).2
        go_wp2_with (fail)
        refine bodyPost_ret (v:=.agg #[.int .i64 3,.int .i64 (1 + pr),.int .i64 (1 + px),.int .i64 (1 + py),.int .i64 (1 + pz),.slice none 0 0]) (by simp [results,Tryz.results56,go_sem,r0,r1,r2,r3,r4,r5]) rfl ?_
        exact ⟨⟨3,1 + pr,⟨1 + px,1 + py,1 + pz⟩,[]⟩,.slice none 0 0,rfl,⟨World.ownsRow_nil _ _ _ _,(((((E4.out.setCell hsl _).setCell hsl _).setCell hsl _).setCell hsl _).setCell hsl _).setCell hsl _⟩,good_small ⟨by decide,by decide⟩ HG0.out HGx.out HGy.out HGz.out⟩
     ·clear hi2
      obtain ⟨ou,lu,cu,hu9⟩:=own_slice HQ.out.row
      subst hu9
      have HC:Hid _:=fun w' (h:Lies w' (.slice ou lu cu) ((Ls.take i).map partP))=>rcheck_any ⟨4,1 + pr,⟨1 + px,1 + py,1 + pz⟩,(Ls.take i).map partP⟩ (.slice ou lu cu) w' h
      unfold Sh.v at HC
      dsimp only at HC
      generalize (Ls.take i).map partP = M at *
      have HCK:Hid (checkP ⟨4,1 + pr,⟨1 + px,1 + py,1 + pz⟩,M⟩ = checkP ⟨4,1 + pr,⟨1 + px,1 + py,1 + pz⟩,M⟩):=rfl
      obtain ⟨ck,hck⟩:∃ ck,checkP ⟨4,1 + pr,⟨1 + px,1 + py,1 + pz⟩,M⟩ = ck:=⟨_,rfl⟩
      rw [hck] at HC
      clear HCK
      have HK:Hid _:=hck
      clear hck
      have s0:=(HQ.out.c3 0 _ rfl).1
      have s1:=(HQ.out.c3 1 _ rfl).1
      have s2:=(HQ.out.c3 2 _ rfl).1
      have s3:=(HQ.out.c3 3 _ rfl).1
      have s4:=(HQ.out.c3 4 _ rfl).1
      have s5:=(HQ.out.c3 5 _ rfl).1
      go_wp2_with (fail)
      refine Calls.mono (HC.out _ (Lies.of_row HQ.out.row)) ?_
      rintro e Y ⟨rfl,hb⟩
      have HQ:Hid (RS w0 Y ba bs b3 [.int .i64 k,.int .i64 r,.int .i64 hx,.int .i64 hy,.int .i64 hz,.slice o Ls.length c] (.int .i64 4) (.int .i64 (1 + pr)) (.int .i64 (1 + px)) (.int .i64 (1 + py)) (.int .i64 (1 + pz)) (.slice ou lu cu) M):=HQ.out.step hb
      clear hb HC s0 s1 s2 s3 s4 s5 m5
      by_cases hc0:ck = 0
      ·subst hc0
       have s0:=(HQ.out.c3 0 _ rfl).1
       have r0:=(HQ.out.c2 0 _ rfl).1
       have f0:=(HQ.out.c2 0 _ rfl).2
       have s1:=(HQ.out.c3 1 _ rfl).1
       have r1:=(HQ.out.c2 1 _ rfl).1
       have f1:=(HQ.out.c2 1 _ rfl).2
       have s2:=(HQ.out.c3 2 _ rfl).1
       have r2:=(HQ.out.c2 2 _ rfl).1
       have f2:=(HQ.out.c2 2 _ rfl).2
       have s3:=(HQ.out.c3 3 _ rfl).1
       have r3:=(HQ.out.c2 3 _ rfl).1
       have f3:=(HQ.out.c2 3 _ rfl).2
       have s4:=(HQ.out.c3 4 _ rfl).1
       have r4:=(HQ.out.c2 4 _ rfl).1
       have f4:=(HQ.out.c2 4 _ rfl).2
       have s5:=(HQ.out.c3 5 _ rfl).1
       have r5:=(HQ.out.c2 5 _ rfl).1
       have f5:=(HQ.out.c2 5 _ rfl).2
       have DN:Hid _:=HQ.out.ns
       go_wp2_with (fail)
       refine bodyPost_ret (v:=.agg #[.int .i64 4,.int .i64 (1 + pr),.int .i64 (1 + px),.int .i64 (1 + py),.int .i64 (1 + pz),.slice ou lu cu]) (by simp [results,Tryz.results56,go_sem,r0,r1,r2,r3,r4,r5]) rfl ?_
       exact ⟨⟨4,1 + pr,⟨1 + px,1 + py,1 + pz⟩,M⟩,.slice ou lu cu,rfl,⟨ownsRow_setCell_other (ownsRow_setCell_other (ownsRow_setCell_other (ownsRow_setCell_other (ownsRow_setCell_other (ownsRow_setCell_other (HQ.out.row) DN.out _) DN.out _) DN.out _) DN.out _) DN.out _) DN.out _,(((((HQ.out.below.setCell hsl _).setCell hsl _).setCell hsl _).setCell hsl _).setCell hsl _).setCell hsl _⟩,good_hull HG0.out HGx.out HGy.out HGz.out HK.out⟩
      ·have hce:(ck == 0) = false:=beq_eq_false_iff_ne.2 hc0
       have g0:=(HQ.out.c3 0 _ rfl).1
       have g5:=(HQ.out.c3 5 _ rfl).1
       have h0:=(HQ.out.c3 0 _ rfl).2
       have h5:=(HQ.out.c3 5 _ rfl).2
       go_upto_region 12 with fail
       have E3:=Cells.set (Cells.set HQ.out.c3 0 (.int .i64 3) (by simp)) 5 (.slice none 0 0) (by simp)
       have E2:=Cells.put (Cells.put HQ.out.c2 HQ.out.d2 0 (.int .i64 3)) HQ.out.d2 5 (.slice none 0 0)
       have E4:Below w0.heap.size w0 ((Y.setCell ⟨b3,0,none⟩ (.int .i64 3)).setCell ⟨b3,5,none⟩ (.slice none 0 0)):=(HQ.out.below.setCell HQ.out.l3 _).setCell HQ.out.l3 _
       obtain ⟨Y2,hY2⟩:∃ X:World,X = (Y.setCell ⟨b3,0,none⟩ (.int .i64 3)).setCell ⟨b3,5,none⟩ (.slice none 0 0):=⟨_,rfl⟩
       rw [<- hY2] at E3 E2 E4 ⊢
       clear hY2 g0 g5 h0 h5 hce hc0
       have E4:Hid _:=E4
       have s0:=(E3 0 _ rfl).1
       have r0:=(E2 0 _ rfl).1
       have f0:=(E2 0 _ rfl).2
       have s1:=(E3 1 _ rfl).1
       have r1:=(E2 1 _ rfl).1
       have f1:=(E2 1 _ rfl).2
       have s2:=(E3 2 _ rfl).1
       have r2:=(E2 2 _ rfl).1
       have f2:=(E2 2 _ rfl).2
       have s3:=(E3 3 _ rfl).1
       have r3:=(E2 3 _ rfl).1
       have f3:=(E2 3 _ rfl).2
       have s4:=(E3 4 _ rfl).1
       have r4:=(E2 4 _ rfl).1
       have f4:=(E2 4 _ rfl).2
       have s5:=(E3 5 _ rfl).1
       have r5:=(E2 5 _ rfl).1
       have f5:=(E2 5 _ rfl).2
       go_wp2_with (fail)
       refine bodyPost_ret (v:=.agg #[.int .i64 3,.int .i64 (1 + pr),.int .i64 (1 + px),.int .i64 (1 + py),.int .i64 (1 + pz),.slice none 0 0]) (by simp [results,Tryz.results56,go_sem,r0,r1,r2,r3,r4,r5]) rfl ?_
       exact ⟨⟨3,1 + pr,⟨1 + px,1 + py,1 + pz⟩,[]⟩,.slice none 0 0,rfl,⟨World.ownsRow_nil _ _ _ _,(((((E4.out.setCell hsl _).setCell hsl _).setCell hsl _).setCell hsl _).setCell hsl _).setCell hsl _⟩,good_small ⟨by decide,by decide⟩ HG0.out HGx.out HGy.out HGz.out⟩
   ·have hk4:¬ 1 + kz = 4:=by omega
    have HK:Hid (1 <= 1 + kz/\1 + kz <= 3):=⟨by omega,by omega⟩
    clear hk3 l1 u1
    have s0:=(HS'.out.c3 0 _ rfl).1
    have r0:=(HS'.out.c2 0 _ rfl).1
    have f0:=(HS'.out.c2 0 _ rfl).2
    have s1:=(HS'.out.c3 1 _ rfl).1
    have r1:=(HS'.out.c2 1 _ rfl).1
    have f1:=(HS'.out.c2 1 _ rfl).2
    have s2:=(HS'.out.c3 2 _ rfl).1
    have r2:=(HS'.out.c2 2 _ rfl).1
    have f2:=(HS'.out.c2 2 _ rfl).2
    have s3:=(HS'.out.c3 3 _ rfl).1
    have r3:=(HS'.out.c2 3 _ rfl).1
    have f3:=(HS'.out.c2 3 _ rfl).2
    have s4:=(HS'.out.c3 4 _ rfl).1
    have r4:=(HS'.out.c2 4 _ rfl).1
    have f4:=(HS'.out.c2 4 _ rfl).2
    have s5:=(HS'.out.c3 5 _ rfl).1
    have r5:=(HS'.out.c2 5 _ rfl).1
    have f5:=(HS'.out.c2 5 _ rfl).2
    go_wp2_with (fail)
    refine bodyPost_ret (v:=.agg #[.int .i64 (1 + kz),.int .i64 (1 + pr),.int .i64 (1 + px),.int .i64 (1 + py),.int .i64 (1 + pz),.slice none 0 0]) (by simp [results,Tryz.results56,go_sem,r0,r1,r2,r3,r4,r5]) rfl ?_
    exact ⟨⟨1 + kz,1 + pr,⟨1 + px,1 + py,1 + pz⟩,[]⟩,.slice none 0 0,rfl,⟨World.ownsRow_nil _ _ _ _,(((((HS'.out.below.setCell hsl _).setCell hsl _).setCell hsl _).setCell hsl _).setCell hsl _).setCell hsl _⟩,good_small HK.out HG0.out HGx.out HGy.out HGz.out,fun h=>absurd h hk4⟩
end
section
open Go.RowKit Go.Shelf
structure CK (w0 X:World) (n0:Nat) (bs:List (Nat × List Value)) (u:Value) (M:List Pt) (v:Value) (N:List Pt):Prop where
 below:Below w0.heap.size w0 X
 fix:∀ p ∈ bs,p.1 < X.heap.size/\u.ownBlock ≠ some p.1/\v.ownBlock ≠ some p.1/\Cel X p.1 p.2
 hn:w0.heap.size <= n0
 hx:n0 <= X.heap.size
 own:X.ownsRow n0 45 3 u M.length (fl3 M)
 two:X.ownsRow n0 45 3 v N.length (fl3 N)
 ap:∀ k,v.ownBlock = some k->u.ownBlock ≠ some k
theorem grewOf {w W:World} {u u':Value} (hg:w.grownBy W u.ownBlock) (hs:u'.ownBlock = u.ownBlock \/ u'.ownBlock = some w.heap.size):Grew w W u u':=
 ⟨hg,by rcases hs with e | e;exact Or.inl e;exact Or.inr ⟨_,e,Nat.le_refl _⟩⟩
section
variable {w0 X Y:World} {n0:Nat} {bs:List (Nat × List Value)} {u u' v:Value} {M M' N:List Pt}
theorem CK.step (h:CK w0 X n0 bs u M v N) (hb:Below X.heap.size X Y):CK w0 Y n0 bs u M v N:=
 ⟨b_step h.below hb,fun p hp=>⟨Nat.lt_of_lt_of_le (h.fix p hp).1 hb.size,(h.fix p hp).2.1,(h.fix p hp).2.2.1,(h.fix p hp).2.2.2.step hb⟩,h.hn,Nat.le_trans h.hx hb.size,own_below h.own hb,own_below h.two hb,h.ap⟩
theorem CK.grew (h:CK w0 X n0 bs u M v N) (hr:Y.ownsRow n0 45 3 u' M'.length (fl3 M')) (hg:Grew X Y u u'):CK w0 Y n0 bs u' M' v N:=by
 obtain ⟨t1,t2⟩:=hg.beside h.two h.ap
 refine ⟨hg.on h.below (own_le h.own h.hn) h.below.size,fun p hp=>?_,h.hn,Nat.le_trans h.hx hg.grown.size,hr,t1,t2⟩
 obtain ⟨p1,p2,p3,p4⟩:=h.fix p hp
 refine ⟨Nat.lt_of_lt_of_le p1 hg.grown.size,fun e=>?_,p3,fun i x e=>?_⟩
 ·rcases hg.same with s | ⟨j,s,hj⟩
  ·rw [s] at e;exact p2 e
  ·rw [s] at e;cases e;omega
 ·have hk:Y.heap[p.1]? = X.heap[p.1]?:=hg.grown.block p.1 p1 (fun e=>p2 e.symm)
  exact (World.cell?_of_block (w:=X) (a:=⟨p.1,i,none⟩) hk).trans (p4 i x e)
theorem CK.app (p:Pt) (h:CK w0 X n0 bs u M v N) (hr:Y.ownsRow n0 45 3 u' (M.length + 1) (fl3 M ++ [.int .i64 p.x,.int .i64 p.y,.int .i64 p.z])) (hg:Grew X Y u u'):CK w0 Y n0 bs u' (M ++ [p]) v N:=by
 refine h.grew ?_ hg
 rw [fl3_append,List.length_append];exact hr
theorem CK.at (h:CK w0 X n0 bs u M v N) {c:Nat} {vs:List Value} (hm:(c,vs) ∈ bs):Cel X c vs:=(h.fix _ hm).2.2.2
end
theorem map_take (f:Pt->Pt) (L:List Pt) {i:Nat} (h:i < L.length):(L.take (i + 1)).map f = (L.take i).map f ++ [f (pt L i)]:=by
 rw [take_pt h,List.map_append]
 rfl
def A10 (p q z:Nat) (W7:World) (B:Nat) (u:Value) (n:Nat) (xs news:List Value) (γ:Nat->Value) (L:Nat->Bool) (w:World):Prop:=
 ((L q = false/\Below W7.heap.size W7 w/\(L p = true->∃ g,γ p = .slice (some ⟨g,0,none⟩) 1 1/\w.heap[g]? = some (.cells news.toArray 45 (0,0)))) \/
 (L q = true/\w.ownsRow B 45 3 (γ q) (n + 1) (xs ++ news)/\Grew W7 w u (γ q)))/\(L z = true->γ z = γ q)
section
variable {p q z:Nat} {W7:World} {B:Nat} {u:Value} {n:Nat} {xs news:List Value} {γ:Nat->Value} {L:Nat->Bool} {w:World}
end
end
end Go.Proofs.YtablgiflakncfaaGreat
