/- The document's own layer 12: which bodies may be. -/
import Derived.Test.YtpjaacpcdomfiaaGreatSBTells15
import Derived.Test.YtpjaacpcdomfiaaGreatSBTells13
import Derived.Test.YtpjaacpcdomfiaaGreatSBTells18
import Derived.Test.YtpjaacpcdomfiaaGreatProg
import Derived.Lib.SmallJoins
import Derived.OpenShut
import Derived.Test.YtpjaacpcdomfiaaGreatSBTells0
import Derived.Test.YtpjaacpcdomfiaaGreatSBTells1
import Derived.Test.YtpjaacpcdomfiaaGreatSBTells10
import Derived.Deep.Slices
import Derived.Test.YtpjaacpcdomfiaaGreatSBTells17
set_option maxHeartbeats 8000000
set_option maxRecDepth 100000
set_option linter.unusedVariables false
namespace Go.Proofs.YtpjaacpcdomfiaaGreat
section
open Go.RowKit Go.Shelf Fx
def inL (a:V3) (lo hi:Int):Bool:=inR a.x lo hi && (inR a.y lo hi && inR a.z lo hi)
theorem rin12_any (a:V3) (lo hi:Int) (w:World) :
  Calls Tryz.prog 46 #[a.val,.int .i64 lo,.int .i64 hi] w fun e W=>e = .returned (.bool (inL a lo hi))/\Hid (Below w.heap.size w W):=by
 obtain ⟨x,y,z⟩:=a
 have HE:Hid (∀ b:Bool,(b = true ↔ (lo <= x/\x <= hi)/\(lo <= y/\y <= hi)/\(lo <= z/\z <= hi))->inL ⟨x,y,z⟩ lo hi = b):=fun b h=>by
  rw [Bool.eq_iff_iff,h]
  unfold inL inR
  simp only [Bool.and_eq_true,decide_eq_true_eq]
 go_enter Tryz.func46,Tryz.ntmps46
 go_wp2
 all_goals
  go_ret
  exact ⟨congrArg (fun b=>Ending.returned (.bool b)) (HE.out _ ⟨fun h=>by first | (cases h;done) | omega | (have h':=of_decide_eq_true h;omega),fun h=>by first | rfl | (exfalso;omega) | exact decide_eq_true (by omega)⟩).symm,n_after w _⟩
theorem rgone_any (b:Bd) (R:List Value) (W:World) :
  Calls Tryz.prog 13 #[.agg (b.L R).toArray] W fun e W'=>e = .returned (.bool (!inV b.s 4398046511104))/\Hid (Below W.heap.size W W'):=by
 have H1:Hid (∀ w,Calls Tryz.prog 46 #[b.s.val,.int .i64 (-4398046511104),.int .i64 4398046511104] w fun e W=>e = .returned (.bool (inV b.s 4398046511104))/\Hid (Below w.heap.size w W)):=fun w=>rin12_any b.s (-4398046511104) 4398046511104 w
 have HX:Hid (Below _ _ _):=n_after W (.cells (b.L R).toArray 35)
 have CX:Hid (CW _ _ _):=CW.new W (b.L R) 35
 have k1:=(CX.out 1 _ rfl).1
 have k2:=(CX.out 2 _ rfl).1
 have k3:=(CX.out 3 _ rfl).1
 generalize inV b.s 4398046511104 = c1 at *
 generalize b.L R = cs at *
 go_enter Tryz.func13,Tryz.ntmps13
 go_wp2_with (fail)
 refine Calls.mono (H1.out _) ?_
 rintro e V1 ⟨rfl,hb⟩
 go_wp2_with (fail)
 go_ret
 exact ⟨rfl,b_step HX.out hb.out⟩
theorem row4i {w:World} {b:Nat} {x y z u:Int} (h0:w.cell? ⟨b,0,none⟩ = some (.int .i64 x)) (h1:w.cell? ⟨b,1,none⟩ = some (.int .i64 y)) (h2:w.cell? ⟨b,2,none⟩ = some (.int .i64 z)) (h3:w.cell? ⟨b,3,none⟩ = some (.int .i64 u)):NRow w (some ⟨b,0,none⟩) [x,y,z,u]:=
 Or.inr ⟨b,0,rfl,fun k hk=>by
  match k,hk with
  | 0,_=>exact h0
  | 1,_=>exact h1
  | 2,_=>exact h2
  | 3,_=>exact h3⟩
theorem frm_parts {b:Bd} {fr:Int} (h:frmB b fr = true):(b.k = 1 \/ b.k = 2)/\inV b.s 4398046511104 = true/\whlB b.q = true/\(0 <= fr/\fr <= 4294967296)/\inV b.p 18014398509481984 = true/\inV b.l 18014398509481984 = true:=by
 unfold frmB inR at h
 simp only [Bool.and_eq_true,Bool.or_eq_true,decide_eq_true_eq] at h
 exact h
theorem frm_of {b:Bd} {fr:Int} (h:(b.k = 1 \/ b.k = 2)/\inV b.s 4398046511104 = true/\whlB b.q = true/\(0 <= fr/\fr <= 4294967296)/\inV b.p 18014398509481984 = true/\inV b.l 18014398509481984 = true):frmB b fr = true:=by
 unfold frmB inR
 simp only [Bool.and_eq_true,Bool.or_eq_true,decide_eq_true_eq]
 exact h
theorem rcheck12_any (b:Bd) (r:Rs) (pv:Value) (W:World) (hv:Lies W pv r.sh.pts) :
  Calls Tryz.prog 11 #[.agg (b.L (r.l pv)).toArray] W fun e W'=>e = .returned (.int .i64 (chkB b r.fr r.sh))/\Hid (Below W.heap.size W W'):=by
 obtain ⟨c9,hc9⟩:∃ c,c = chkB b r.fr r.sh:=⟨_,rfl⟩
 rw [<- hc9]
 have HC9:Hid _:=hc9
 clear hc9
 obtain ⟨V,hV⟩:∃ V,V = ((W.alloc (.cells (b.L (r.l pv)).toArray 35)).alloc (.cells #[.bool false] 44)):=⟨_,rfl⟩
 have hb0:=n_after W (.cells (b.L (r.l pv)).toArray 35)
 have hb1:=n_after (W.alloc (.cells (b.L (r.l pv)).toArray 35)) (.cells #[.bool false] 44)
 have Cb:CW V (W.heap.size) (b.L (r.l pv)):=by
  have h9:=(CW.new W (b.L (r.l pv)) 35).step hb1
  rw [hV];exact h9
 have Co:CW V (W.heap.size + 1) [.bool false]:=by
  have h9:=CW.new (W.alloc (.cells (b.L (r.l pv)).toArray 35)) [.bool false] 44
  simp only [World.size_alloc] at h9
  rw [hV];exact h9
 have hB:Below W.heap.size W V:=by rw [hV];exact (b_step hb0 hb1)
 clear hb0 hb1
 have HX:Hid (Below _ _ _):=hB
 have HV:Hid (Lies _ _ _):=hv
 obtain ⟨o,c,hpv,_⟩:=hv.form
 have HPV:Hid _:=hpv
 clear hv hB hpv
 have H1:Hid (∀ w,Calls Tryz.prog 46 #[b.s.val,.int .i64 (-4398046511104),.int .i64 4398046511104] w fun e W=>e = .returned (.bool (inV b.s 4398046511104))/\Hid (Below w.heap.size w W)):=fun w=>rin12_any b.s (-4398046511104) 4398046511104 w
 have H2:Hid (∀ w,Calls Tryz.prog 46 #[b.p.val,.int .i64 (-18014398509481984),.int .i64 18014398509481984] w fun e W=>e = .returned (.bool (inV b.p 18014398509481984))/\Hid (Below w.heap.size w W)):=fun w=>rin12_any b.p (-18014398509481984) 18014398509481984 w
 have H3:Hid (∀ w,Calls Tryz.prog 46 #[b.l.val,.int .i64 (-18014398509481984),.int .i64 18014398509481984] w fun e W=>e = .returned (.bool (inV b.l 18014398509481984))/\Hid (Below w.heap.size w W)):=fun w=>rin12_any b.l (-18014398509481984) 18014398509481984 w
 have H4:Hid _:=fun w=>rin12_any b.i 4096 562949953421312 w
 have HS:Hid _:=fun w h=>rcheck_any r.sh pv w h
 unfold Sh.v at HS
 go_enter Tryz.func11,Tryz.ntmps11
 go_upto_region 2 with fail
 rw [<- hV]
 clear hV
 obtain ⟨po,hpo⟩:∃ p,p = W.heap.size + 1:=⟨_,rfl⟩
 obtain ⟨pb,hpb⟩:∃ p,p = W.heap.size:=⟨_,rfl⟩
 rw [<- hpo] at Co
 rw [<- hpb] at Cb
 rw [<- hpo,<- hpb]
 have hWo:W.heap.size <= po:=by omega
 have hoV:po < V.heap.size:=Co.lt
 have nbo:pb ≠ po:=by omega
 clear hpb hpo
 have Q4:=(Cb 4 _ rfl).1
 have Q5:=(Cb 5 _ rfl).1
 have Q6:=(Cb 6 _ rfl).1
 have Q7:=(Cb 7 _ rfl).1
 obtain ⟨V0,hV0⟩:∃ X,X = V.alloc (.cells #[.int .i64 b.q.w,.int .i64 b.q.x,.int .i64 b.q.y,.int .i64 b.q.z] 3):=⟨_,rfl⟩
 have hb0:Below V.heap.size V V0:=by rw [hV0];exact n_after _ _
 have Cn:CW V0 V.heap.size [.int .i64 b.q.w,.int .i64 b.q.x,.int .i64 b.q.y,.int .i64 b.q.z]:=by rw [hV0];exact CW.new V [.int .i64 b.q.w,.int .i64 b.q.x,.int .i64 b.q.y,.int .i64 b.q.z] 3
 have HN:Hid _:=rnorm_law po 0 false [b.q.w,b.q.x,b.q.y,b.q.z] (some ⟨V.heap.size,0,none⟩) 4 V0 (c_after hb0 (Co 0 _ rfl).1) (f_after hb0 (Co 0 _ rfl).1 (Co 0 _ rfl).2) (by simp) (row4i (Cn 0 _ rfl).1 (Cn 1 _ rfl).1 (Cn 2 _ rfl).1 (Cn 3 _ rfl).1)
 have CX:Hid (CW _ _ _):=Cb.step hb0
 have HX:Hid (Below _ _ _):=b_step HX.out hb0
 have hoV:=Nat.lt_of_lt_of_le hoV hb0.size
 clear Co Cn Cb hb0
 rw [hV0] at HN CX HX hoV
 clear hV0
 simp only [List.length_cons,List.length_nil,Nat.zero_add,Nat.reduceAdd] at HN
 go_wp2_with (fail)
 refine Calls.mono HN.out ?_
 rintro e W1 ⟨nn,g,rfl,SS,A⟩
 obtain ⟨hnn,hg⟩:=SS.out
 have CX:Hid (CW _ _ _):=CX.out.after A.out nbo
 have HX:Hid (Below _ _ _):=A.out.below _ _ HX.out hWo HX.out.size
 have ho:=A.out.cell
 have HNB:Hid (whlB b.q = (!g && inR nn 4294967288 4294967304)):=by
  show _ = _
  unfold whlB
  rw [<- hnn,hg,Bool.false_or]
  cases hh:(norm [b.q.w,b.q.x,b.q.y,b.q.z]).isNone with
  | false=>simp
  | true =>
   have:nn = 0:=by rw [hnn];cases h2:norm [b.q.w,b.q.x,b.q.y,b.q.z] with
    | none=>rfl
    | some v=>rw [h2] at hh;cases hh
   rw [this];rfl
 clear SS A HN hnn hg Q4 Q5 Q6 Q7 hoV
 have K1:=(CX.out 1 _ rfl).1
 have K2:=(CX.out 2 _ rfl).1
 have K3:=(CX.out 3 _ rfl).1
 go_wp2_with (fail)
 refine Calls.mono (H1.out _) ?_
 rintro e W2 ⟨rfl,hb⟩
 have CX:Hid (CW _ _ _):=CX.out.step hb.out
 have HX:Hid (Below _ _ _):=b_step HX.out hb.out
 have ho:=c_after hb.out ho
 clear hb K1 K2 K3 H1
 have K1:=(CX.out 8 _ rfl).1
 have K2:=(CX.out 9 _ rfl).1
 have K3:=(CX.out 10 _ rfl).1
 go_wp2_with (fail)
 refine Calls.mono (H2.out _) ?_
 rintro e W3 ⟨rfl,hb⟩
 have CX:Hid (CW _ _ _):=CX.out.step hb.out
 have HX:Hid (Below _ _ _):=b_step HX.out hb.out
 have ho:=c_after hb.out ho
 clear hb K1 K2 K3 H2
 have K1:=(CX.out 11 _ rfl).1
 have K2:=(CX.out 12 _ rfl).1
 have K3:=(CX.out 13 _ rfl).1
 go_wp2_with (fail)
 refine Calls.mono (H3.out _) ?_
 rintro e W4 ⟨rfl,hb⟩
 have CX:Hid (CW _ _ _):=CX.out.step hb.out
 have HX:Hid (Below _ _ _):=b_step HX.out hb.out
 have ho:=c_after hb.out ho
 clear hb K1 K2 K3 H3
 have K0:=(CX.out 0 _ rfl).1
 have K26:=(CX.out 26 _ rfl).1
 have HF:Hid (frmB b r.fr = true ↔ (b.k = 1 \/ b.k = 2)/\inV b.s 4398046511104 = true/\(!g && inR nn 4294967288 4294967304) = true/\(0 <= r.fr/\r.fr <= 4294967296)/\inV b.p 18014398509481984 = true/\inV b.l 18014398509481984 = true):=by
  show _ ↔ _
  rw [<- HNB.out]
  exact ⟨frm_parts,frm_of⟩
 have HC1:Hid (frmB b r.fr = false->c9 = 1):=fun h=>by rw [HC9.out];unfold chkB;rw [h];rfl
 have HC2:Hid (frmB b r.fr = true->c9 = if checkP r.sh = 0 then (if b.k = 2/\mssB b = false then 120 else 0) else checkP r.sh):=fun h=>by rw [HC9.out];unfold chkB;rw [h];rfl
 clear HNB HC9
 generalize inV b.s 4398046511104 = c1 at *
 generalize inV b.p 18014398509481984 = c4 at *
 generalize inV b.l 18014398509481984 = c5 at *
 generalize frmB b r.fr = ff at *
 have kk:b.k = 1 \/ b.k = 2 \/ ((b.k == 1) = false/\(b.k == 2) = false):=by
  by_cases h1:b.k = 1
  ·exact Or.inl h1
  ·by_cases h2:b.k = 2
   ·exact Or.inr (Or.inl h2)
   ·exact Or.inr (Or.inr ⟨by simpa using h1,by simpa using h2⟩)
 rcases kk with k1 | k2 | ⟨k1,k2⟩
 ·have k12:b.k = 1 \/ b.k = 2:=Or.inl k1
  rw [k1] at K0
  cases c1 with
  | false =>
   have E9:Hid (c9 = 1):=HC1.out (by cases ff with | false=>rfl | true=>(exfalso;have h9:=HF.out.1 rfl;cases h9.2.1))
   clear HF HC1 HC2
   go_wp2_with (fail)
   go_ret
   exact ⟨by rw [E9.out];rfl,HX⟩
  | true =>
   cases g with
   | true =>
    have E9:Hid (c9 = 1):=HC1.out (by cases ff with | false=>rfl | true=>(exfalso;have h9:=HF.out.1 rfl;have:=h9.2.2.1;simp at this))
    clear HF HC1 HC2
    go_wp2_with (fail)
    go_ret
    exact ⟨by rw [E9.out];rfl,HX⟩
   | false =>
    by_cases t2:nn < 4294967288
    ·have E9:Hid (c9 = 1):=HC1.out (by cases ff with | false=>rfl | true=>(exfalso;have h9:=HF.out.1 rfl;have:=h9.2.2.1;simp [inR] at this;omega))
     clear HF HC1 HC2
     go_wp2_with (fail)
     go_ret
     exact ⟨by rw [E9.out];rfl,HX⟩
    ·by_cases t3:4294967304 < nn
     ·have E9:Hid (c9 = 1):=HC1.out (by cases ff with | false=>rfl | true=>(exfalso;have h9:=HF.out.1 rfl;have:=h9.2.2.1;simp [inR] at this;omega))
      clear HF HC1 HC2
      go_wp2_with (fail)
      go_ret
      exact ⟨by rw [E9.out];rfl,HX⟩
     ·by_cases t4:r.fr < 0
      ·have E9:Hid (c9 = 1):=HC1.out (by cases ff with | false=>rfl | true=>(exfalso;have h9:=HF.out.1 rfl;omega))
       clear HF HC1 HC2
       go_wp2_with (fail)
       go_ret
       exact ⟨by rw [E9.out];rfl,HX⟩
      ·by_cases t5:4294967296 < r.fr
       ·have E9:Hid (c9 = 1):=HC1.out (by cases ff with | false=>rfl | true=>(exfalso;have h9:=HF.out.1 rfl;omega))
        clear HF HC1 HC2
        go_wp2_with (fail)
        go_ret
        exact ⟨by rw [E9.out];rfl,HX⟩
       ·cases c4 with
        | false =>
         have E9:Hid (c9 = 1):=HC1.out (by cases ff with | false=>rfl | true=>(exfalso;have h9:=HF.out.1 rfl;cases h9.2.2.2.2.1))
         clear HF HC1 HC2
         go_wp2_with (fail)
         go_ret
         exact ⟨by rw [E9.out];rfl,HX⟩
        | true =>
         cases c5 with
         | false =>
          have E9:Hid (c9 = 1):=HC1.out (by cases ff with | false=>rfl | true=>(exfalso;have h9:=HF.out.1 rfl;cases h9.2.2.2.2.2))
          clear HF HC1 HC2
          go_wp2_with (fail)
          go_ret
          exact ⟨by rw [E9.out];rfl,HX⟩
         | true =>
          have E9:Hid (ff = true):=HF.out.2 ⟨k12,rfl,by simp [inR];omega,by omega,rfl,rfl⟩
          have E2:Hid _:=HC2.out E9.out
          clear HF HC1 HC2 E9
          by_cases hcc:checkP r.sh = 0
          ·have E3:Hid (c9 = 0):=by show _ = _;rw [E2.out,if_pos hcc,if_neg (fun h=>by rw [k1] at h;cases h.1)]
           have K18:=(CX.out 18 _ rfl).1
           have K19:=(CX.out 19 _ rfl).1
           have K20:=(CX.out 20 _ rfl).1
           have K21:=(CX.out 21 _ rfl).1
           have K22:=(CX.out 22 _ rfl).1
           have K23:=(CX.out 23 _ rfl).1
           rw [HPV.out] at K23
           have HS1:Hid _:=HS.out W4 (HV.out.below HX.out)
           rw [HPV.out,hcc] at HS1
           clear HS E2 hcc
           go_wp2_with (fail)
           refine Calls.mono HS1.out ?_
           rintro e V2 ⟨rfl,hb⟩
           have HX:Hid (Below _ _ _):=b_step HX.out hb
           have CX:Hid (CW _ _ _):=CX.out.step hb
           clear hb HS1 K18 K19 K20 K21 K22 K23 K0 K26 ho
           have K0:=(CX.out 0 _ rfl).1
           have KF:=(CX.out 15 _ rfl).1
           have KG:=(CX.out 16 _ rfl).1
           have KH:=(CX.out 17 _ rfl).1
           go_wp2_with (fail)
           refine Calls.mono (H4.out _) ?_
           rintro e V3 ⟨rfl,hb⟩
           have HX:Hid (Below _ _ _):=b_step HX.out hb.out
           have CX:Hid (CW _ _ _):=CX.out.step hb.out
           clear hb K0 KF KG KH
           have K0:=(CX.out 0 _ rfl).1
           have KE:=(CX.out 14 _ rfl).1
           rw [k1] at K0
           go_wp2_with (fail)
           go_ret
           exact ⟨by rw [E3.out];rfl,HX⟩
          ·have E3:Hid (c9 = checkP r.sh):=by show _ = _;rw [E2.out,if_neg hcc]
           have hc2:(checkP r.sh == 0) = false:=by simpa using hcc
           have K18:=(CX.out 18 _ rfl).1
           have K19:=(CX.out 19 _ rfl).1
           have K20:=(CX.out 20 _ rfl).1
           have K21:=(CX.out 21 _ rfl).1
           have K22:=(CX.out 22 _ rfl).1
           have K23:=(CX.out 23 _ rfl).1
           rw [HPV.out] at K23
           have HS1:Hid _:=HS.out W4 (HV.out.below HX.out)
           rw [HPV.out] at HS1
           clear HS E2
           generalize checkP r.sh = cc at *
           go_wp2_with (fail)
           refine Calls.mono HS1.out ?_
           rintro e V2 ⟨rfl,hb⟩
           have HX:Hid (Below _ _ _):=b_step HX.out hb
           have CX:Hid (CW _ _ _):=CX.out.step hb
           clear hb HS1 K18 K19 K20 K21 K22 K23 K0 K26 ho
           go_wp2_with (fail)
           go_ret
           exact ⟨by rw [E3.out];rfl,HX⟩
 ·have k12:b.k = 1 \/ b.k = 2:=Or.inr k2
  rw [k2] at K0
  cases c1 with
  | false =>
   have E9:Hid (c9 = 1):=HC1.out (by cases ff with | false=>rfl | true=>(exfalso;have h9:=HF.out.1 rfl;cases h9.2.1))
   clear HF HC1 HC2
   go_wp2_with (fail)
   go_ret
   exact ⟨by rw [E9.out];rfl,HX⟩
  | true =>
   cases g with
   | true =>
    have E9:Hid (c9 = 1):=HC1.out (by cases ff with | false=>rfl | true=>(exfalso;have h9:=HF.out.1 rfl;have:=h9.2.2.1;simp at this))
    clear HF HC1 HC2
    go_wp2_with (fail)
    go_ret
    exact ⟨by rw [E9.out];rfl,HX⟩
   | false =>
    by_cases t2:nn < 4294967288
    ·have E9:Hid (c9 = 1):=HC1.out (by cases ff with | false=>rfl | true=>(exfalso;have h9:=HF.out.1 rfl;have:=h9.2.2.1;simp [inR] at this;omega))
     clear HF HC1 HC2
     go_wp2_with (fail)
     go_ret
     exact ⟨by rw [E9.out];rfl,HX⟩
    ·by_cases t3:4294967304 < nn
     ·have E9:Hid (c9 = 1):=HC1.out (by cases ff with | false=>rfl | true=>(exfalso;have h9:=HF.out.1 rfl;have:=h9.2.2.1;simp [inR] at this;omega))
      clear HF HC1 HC2
      go_wp2_with (fail)
      go_ret
      exact ⟨by rw [E9.out];rfl,HX⟩
     ·by_cases t4:r.fr < 0
      ·have E9:Hid (c9 = 1):=HC1.out (by cases ff with | false=>rfl | true=>(exfalso;have h9:=HF.out.1 rfl;omega))
       clear HF HC1 HC2
       go_wp2_with (fail)
       go_ret
       exact ⟨by rw [E9.out];rfl,HX⟩
      ·by_cases t5:4294967296 < r.fr
       ·have E9:Hid (c9 = 1):=HC1.out (by cases ff with | false=>rfl | true=>(exfalso;have h9:=HF.out.1 rfl;omega))
        clear HF HC1 HC2
        go_wp2_with (fail)
        go_ret
        exact ⟨by rw [E9.out];rfl,HX⟩
       ·cases c4 with
        | false =>
         have E9:Hid (c9 = 1):=HC1.out (by cases ff with | false=>rfl | true=>(exfalso;have h9:=HF.out.1 rfl;cases h9.2.2.2.2.1))
         clear HF HC1 HC2
         go_wp2_with (fail)
         go_ret
         exact ⟨by rw [E9.out];rfl,HX⟩
        | true =>
         cases c5 with
         | false =>
          have E9:Hid (c9 = 1):=HC1.out (by cases ff with | false=>rfl | true=>(exfalso;have h9:=HF.out.1 rfl;cases h9.2.2.2.2.2))
          clear HF HC1 HC2
          go_wp2_with (fail)
          go_ret
          exact ⟨by rw [E9.out];rfl,HX⟩
         | true =>
          have E9:Hid (ff = true):=HF.out.2 ⟨k12,rfl,by simp [inR];omega,by omega,rfl,rfl⟩
          have E2:Hid _:=HC2.out E9.out
          clear HF HC1 HC2 E9
          by_cases hcc:checkP r.sh = 0
          ·have HM:mssB b = (inR b.m 16777216 1099511627776 && inL b.i 4096 562949953421312):=rfl
           by_cases m1:b.m < 16777216
           ·have E3:Hid (c9 = 120):=by show _ = _;rw [E2.out,if_pos hcc,if_pos ⟨k2,by rw [HM];unfold inR;rw [decide_eq_false (by omega)];rfl⟩]
            clear HM
            have K18:=(CX.out 18 _ rfl).1
            have K19:=(CX.out 19 _ rfl).1
            have K20:=(CX.out 20 _ rfl).1
            have K21:=(CX.out 21 _ rfl).1
            have K22:=(CX.out 22 _ rfl).1
            have K23:=(CX.out 23 _ rfl).1
            rw [HPV.out] at K23
            have HS1:Hid _:=HS.out W4 (HV.out.below HX.out)
            rw [HPV.out,hcc] at HS1
            clear HS E2 hcc
            go_wp2_with (fail)
            refine Calls.mono HS1.out ?_
            rintro e V2 ⟨rfl,hb⟩
            have HX:Hid (Below _ _ _):=b_step HX.out hb
            have CX:Hid (CW _ _ _):=CX.out.step hb
            clear hb HS1 K18 K19 K20 K21 K22 K23 K0 K26 ho
            have K0:=(CX.out 0 _ rfl).1
            have KF:=(CX.out 15 _ rfl).1
            have KG:=(CX.out 16 _ rfl).1
            have KH:=(CX.out 17 _ rfl).1
            go_wp2_with (fail)
            refine Calls.mono (H4.out _) ?_
            rintro e V3 ⟨rfl,hb⟩
            have HX:Hid (Below _ _ _):=b_step HX.out hb.out
            have CX:Hid (CW _ _ _):=CX.out.step hb.out
            clear hb K0 KF KG KH
            have K0:=(CX.out 0 _ rfl).1
            have KE:=(CX.out 14 _ rfl).1
            rw [k2] at K0
            go_wp2_with (fail)
            go_ret
            exact ⟨by rw [E3.out];rfl,HX⟩
           by_cases m2:1099511627776 < b.m
           ·have E3:Hid (c9 = 120):=by show _ = _;rw [E2.out,if_pos hcc,if_pos ⟨k2,by rw [HM];unfold inR;rw [decide_eq_false (by omega)];rfl⟩]
            clear HM
            have K18:=(CX.out 18 _ rfl).1
            have K19:=(CX.out 19 _ rfl).1
            have K20:=(CX.out 20 _ rfl).1
            have K21:=(CX.out 21 _ rfl).1
            have K22:=(CX.out 22 _ rfl).1
            have K23:=(CX.out 23 _ rfl).1
            rw [HPV.out] at K23
            have HS1:Hid _:=HS.out W4 (HV.out.below HX.out)
            rw [HPV.out,hcc] at HS1
            clear HS E2 hcc
            go_wp2_with (fail)
            refine Calls.mono HS1.out ?_
            rintro e V2 ⟨rfl,hb⟩
            have HX:Hid (Below _ _ _):=b_step HX.out hb
            have CX:Hid (CW _ _ _):=CX.out.step hb
            clear hb HS1 K18 K19 K20 K21 K22 K23 K0 K26 ho
            have K0:=(CX.out 0 _ rfl).1
            have KF:=(CX.out 15 _ rfl).1
            have KG:=(CX.out 16 _ rfl).1
            have KH:=(CX.out 17 _ rfl).1
            go_wp2_with (fail)
            refine Calls.mono (H4.out _) ?_
            rintro e V3 ⟨rfl,hb⟩
            have HX:Hid (Below _ _ _):=b_step HX.out hb.out
            have CX:Hid (CW _ _ _):=CX.out.step hb.out
            clear hb K0 KF KG KH
            have K0:=(CX.out 0 _ rfl).1
            have KE:=(CX.out 14 _ rfl).1
            rw [k2] at K0
            go_wp2_with (fail)
            go_ret
            exact ⟨by rw [E3.out];rfl,HX⟩
           have em:mssB b = inL b.i 4096 562949953421312:=by rw [HM];unfold inR;rw [decide_eq_true (by omega)];rfl
           generalize inL b.i 4096 562949953421312 = ci at *
           cases ci with
           | false =>
            have E3:Hid (c9 = 120):=by show _ = _;rw [E2.out,if_pos hcc,if_pos ⟨k2,em⟩]
            clear HM em
            have K18:=(CX.out 18 _ rfl).1
            have K19:=(CX.out 19 _ rfl).1
            have K20:=(CX.out 20 _ rfl).1
            have K21:=(CX.out 21 _ rfl).1
            have K22:=(CX.out 22 _ rfl).1
            have K23:=(CX.out 23 _ rfl).1
            rw [HPV.out] at K23
            have HS1:Hid _:=HS.out W4 (HV.out.below HX.out)
            rw [HPV.out,hcc] at HS1
            clear HS E2 hcc
            go_wp2_with (fail)
            refine Calls.mono HS1.out ?_
            rintro e V2 ⟨rfl,hb⟩
            have HX:Hid (Below _ _ _):=b_step HX.out hb
            have CX:Hid (CW _ _ _):=CX.out.step hb
            clear hb HS1 K18 K19 K20 K21 K22 K23 K0 K26 ho
            have K0:=(CX.out 0 _ rfl).1
            have KF:=(CX.out 15 _ rfl).1
            have KG:=(CX.out 16 _ rfl).1
            have KH:=(CX.out 17 _ rfl).1
            go_wp2_with (fail)
            refine Calls.mono (H4.out _) ?_
            rintro e V3 ⟨rfl,hb⟩
            have HX:Hid (Below _ _ _):=b_step HX.out hb.out
            have CX:Hid (CW _ _ _):=CX.out.step hb.out
            clear hb K0 KF KG KH
            have K0:=(CX.out 0 _ rfl).1
            have KE:=(CX.out 14 _ rfl).1
            rw [k2] at K0
            go_wp2_with (fail)
            go_ret
            exact ⟨by rw [E3.out];rfl,HX⟩
           | true =>
            have E3:Hid (c9 = 0):=by show _ = _;rw [E2.out,if_pos hcc,if_neg (fun h=>by rw [em] at h;cases h.2)]
            clear HM em
            have K18:=(CX.out 18 _ rfl).1
            have K19:=(CX.out 19 _ rfl).1
            have K20:=(CX.out 20 _ rfl).1
            have K21:=(CX.out 21 _ rfl).1
            have K22:=(CX.out 22 _ rfl).1
            have K23:=(CX.out 23 _ rfl).1
            rw [HPV.out] at K23
            have HS1:Hid _:=HS.out W4 (HV.out.below HX.out)
            rw [HPV.out,hcc] at HS1
            clear HS E2 hcc
            go_wp2_with (fail)
            refine Calls.mono HS1.out ?_
            rintro e V2 ⟨rfl,hb⟩
            have HX:Hid (Below _ _ _):=b_step HX.out hb
            have CX:Hid (CW _ _ _):=CX.out.step hb
            clear hb HS1 K18 K19 K20 K21 K22 K23 K0 K26 ho
            have K0:=(CX.out 0 _ rfl).1
            have KF:=(CX.out 15 _ rfl).1
            have KG:=(CX.out 16 _ rfl).1
            have KH:=(CX.out 17 _ rfl).1
            go_wp2_with (fail)
            refine Calls.mono (H4.out _) ?_
            rintro e V3 ⟨rfl,hb⟩
            have HX:Hid (Below _ _ _):=b_step HX.out hb.out
            have CX:Hid (CW _ _ _):=CX.out.step hb.out
            clear hb K0 KF KG KH
            have K0:=(CX.out 0 _ rfl).1
            have KE:=(CX.out 14 _ rfl).1
            rw [k2] at K0
            go_wp2_with (fail)
            go_ret
            exact ⟨by rw [E3.out];rfl,HX⟩
          ·have E3:Hid (c9 = checkP r.sh):=by show _ = _;rw [E2.out,if_neg hcc]
           have hc2:(checkP r.sh == 0) = false:=by simpa using hcc
           have K18:=(CX.out 18 _ rfl).1
           have K19:=(CX.out 19 _ rfl).1
           have K20:=(CX.out 20 _ rfl).1
           have K21:=(CX.out 21 _ rfl).1
           have K22:=(CX.out 22 _ rfl).1
           have K23:=(CX.out 23 _ rfl).1
           rw [HPV.out] at K23
           have HS1:Hid _:=HS.out W4 (HV.out.below HX.out)
           rw [HPV.out] at HS1
           clear HS E2
           generalize checkP r.sh = cc at *
           go_wp2_with (fail)
           refine Calls.mono HS1.out ?_
           rintro e V2 ⟨rfl,hb⟩
           have HX:Hid (Below _ _ _):=b_step HX.out hb
           have CX:Hid (CW _ _ _):=CX.out.step hb
           clear hb HS1 K18 K19 K20 K21 K22 K23 K0 K26 ho
           go_wp2_with (fail)
           go_ret
           exact ⟨by rw [E3.out];rfl,HX⟩
 ·have E9:Hid (c9 = 1):=HC1.out (by cases ff with | false=>rfl | true=>(exfalso;have h9:=(HF.out.1 rfl).1;simp at k1 k2;omega))
  clear HF HC1 HC2
  have n1:(b.k != 1) = true:=by unfold bne;rw [k1];rfl
  have n2:(b.k != 2) = true:=by unfold bne;rw [k2];rfl
  go_wp2_with (fail)
  go_ret
  exact ⟨by rw [E9.out];rfl,HX⟩
end
section
open Go.ChangeShapes Go.WideShapes Go.Deep Go.Joins
section
variable {H:Type} {enc:TypeId × Value->H} {w:World} {base:Nat} {spare:Nat->Bool} {held:Bool}
theorem lit_of {n:Nat} {c:Value} {y:DataW H × List MemPlace} (h:DataW.trod enc Tryz.prog w base spare held n 3 [c] = some y):∃ x:Int,c = .int .i64 x/\y = (.lit (.int .i64 x),[])/\(Lit.int .i64 x).wf = true:=by
 obtain ⟨x,h1,h2,h3⟩:=DataW.trod_int Tryz.underlying3 h
 simp at h1
 exact ⟨x,h1,h2,h3⟩
end
end
section
open Go.RowKit Go.Shelf
def Pt.fits (p:Pt):Prop:=(-9223372036854775808 <= p.x/\p.x <= 9223372036854775807)/\(-9223372036854775808 <= p.y/\p.y <= 9223372036854775807)/\(-9223372036854775808 <= p.z/\p.z <= 9223372036854775807)
structure Good (s:Sh):Prop where
 k:1 <= s.kind/\s.kind <= 4
 r:1 <= s.radius/\s.radius <= 16384
 hx:1 <= s.half.x/\s.half.x <= 65536
 hy:1 <= s.half.y/\s.half.y <= 65536
 hz:1 <= s.half.z/\s.half.z <= 65536
 none:s.kind <= 3->s.pts = []
 ok:checkP s = 0
section
variable {p q s:Nat} {W7:World} {B:Nat} {u:Value} {b3 k n:Nat} {xs news:List Value} {γ:Nat->Value} {L:Nat->Bool} {w:World}
end
end
section
open Go.ChangeShapes Go.WideShapes Go.Deep Go.Joins
theorem points_of {H:Type} {enc:TypeId × Value->H} {W:World} {base:Nat} {spare:Nat->Bool} {held:Bool} {a:Option Addr} {len cap fuel:Nat} {x:DataW H × List MemPlace}
  (h:DataW.trod enc Tryz.prog W base spare held fuel 31 [.slice a len cap] = some x):∃ L:List Pt,L.length = len/\Lies W (.slice a len cap) L/\∀ p ∈ L,p.fits:=by
 rcases Deep.open_slice Tryz.underlying31 h with ⟨hcs,_⟩ | ⟨y,l,c,m,n,D,Pl,hcs,_,hl,hm,hmm,_,hx⟩
 ·simp at hcs
  obtain ⟨rfl,rfl,rfl⟩:=hcs
  exact ⟨[],rfl,⟨none,0,rfl,by simp,by omega,fun i hi=>by simp at hi⟩,by simp⟩
 ·simp at hcs
  obtain ⟨rfl,rfl,rfl⟩:=hcs
  unfold maxLen at hm
  have hlm:len <= m:=by rw [hmm];split <;> omega
  have hc3:Tryz.prog.cellsOf 30 = 3:=by kernel_rfl
  have hc1:Tryz.prog.cellsOf 3 = 1:=by kernel_rfl
  have each:∀ i,i < len->∃ q:Pt,(W.cell? ((y.add (i * 3)).add 0) = some (.int .i64 q.x)/\W.cell? ((y.add (i * 3)).add 1) = some (.int .i64 q.y)/\W.cell? ((y.add (i * 3)).add 2) = some (.int .i64 q.z))/\q.fits:=by
   intro i hi
   obtain ⟨cs',hcells,ht⟩:=hx i (by omega)
   rw [hc3] at hcells
   obtain ⟨_,hlen,hcell⟩:=World.cells?_some hcells
   obtain ⟨xs,k,_,_,_,hxl,hel⟩:=DataW.trod_struct Tryz.underlying30 ht
   have get:∀ (v:Value) (j:Nat),((cs'.drop j).take 1) = [v]->cs'[j]? = some v:=fun v j h=>by
    have h2:((cs'.drop j).take 1)[0]? = some v:=by rw [h];rfl
    simpa [List.getElem?_take,List.getElem?_drop] using h2
   have some_of:∀ j,j < 3->∃ z,xs[j]? = some z:=fun j hj=>⟨_,List.getElem?_eq_getElem (by rw [hxl];exact hj)⟩
   have e0:=hel 0 _ rfl
   have e1:=hel 1 _ rfl
   have e2:=hel 2 _ rfl
   obtain ⟨z0,hz0⟩:=some_of 0 (by omega)
   obtain ⟨z1,hz1⟩:=some_of 1 (by omega)
   obtain ⟨z2,hz2⟩:=some_of 2 (by omega)
   rw [hz0] at e0
   rw [hz1] at e1
   rw [hz2] at e2
   obtain ⟨p,hp,_,wp⟩:=DataW.trod_int Tryz.underlying3 e0
   obtain ⟨q,hq,_,wq⟩:=DataW.trod_int Tryz.underlying3 e1
   obtain ⟨r,hr,_,wr⟩:=DataW.trod_int Tryz.underlying3 e2
   have hp2:(cs'.drop 0).take (Tryz.prog.cellsOf 3) = [.int .i64 p]:=hp
   have hq2:(cs'.drop 1).take (Tryz.prog.cellsOf 3) = [.int .i64 q]:=hq
   have hr2:(cs'.drop 2).take (Tryz.prog.cellsOf 3) = [.int .i64 r]:=hr
   rw [hc1] at hp2 hq2 hr2
   have b0:=bounds_i64 wp
   have b1:=bounds_i64 wq
   have b2:=bounds_i64 wr
   exact ⟨⟨p,q,r⟩,⟨(hcell 0 (by omega)).trans (get _ 0 hp2),(hcell 1 (by omega)).trans (get _ 1 hq2),(hcell 2 (by omega)).trans (get _ 2 hr2)⟩,⟨by dsimp only;omega,by dsimp only;omega⟩,⟨by dsimp only;omega,by dsimp only;omega⟩,⟨by dsimp only;omega,by dsimp only;omega⟩⟩
  have ch:∃ (l:Nat->Pt),∀ i,i < len->(W.cell? ((y.add (i * 3)).add 0) = some (.int .i64 (l i).x)/\W.cell? ((y.add (i * 3)).add 1) = some (.int .i64 (l i).y)/\W.cell? ((y.add (i * 3)).add 2) = some (.int .i64 (l i).z))/\(l i).fits:=by
   refine ⟨fun i=>if h:i < len then (each i h).choose else default,fun i hi=>?_⟩
   simp only [dif_pos hi]
   exact (each i hi).choose_spec
  obtain ⟨l,hall⟩:=ch
  have hln:((List.range len).map l).length = len:=by simp
  have hpt:∀ i,i < len->pt ((List.range len).map l) i = l i:=fun i hi=>by unfold pt;simp [hi]
  refine ⟨(List.range len).map l,hln,⟨some y,cap,by rw [hln],by rw [hln];exact hl,by omega,fun i hi=>?_⟩,fun p hp=>?_⟩
  ·rw [hln] at hi
   obtain ⟨b,off,spot⟩:=y
   obtain ⟨⟨h0,h1,h2⟩,_⟩:=hall i hi
   have hs:spot = none:=by simpa [Addr.add] using World.cell?_spot (hall 0 (by omega)).1.1
   subst hs
   have ad:∀ i j,((⟨b,off,none⟩:Addr).add (i * 3)).add j = ⟨b,off + i * 3 + j,none⟩:=fun i j=>by
    unfold Addr.add
    split <;> split <;> simp_all
   rw [ad] at h0 h1 h2
   exact ⟨b,off,rfl,by rw [hpt i hi];exact h0,by rw [hpt i hi];exact h1,by rw [hpt i hi];exact h2⟩
  ·rw [List.mem_map] at hp
   obtain ⟨i,hi,rfl⟩:=hp
   exact (hall i (by simpa using hi)).2
end
section
open Go.ChangeShapes Go.WideShapes Go.Deep Go.Joins
section
variable {H:Type} {enc:TypeId × Value->H} {w:World} {base:Nat} {spare:Nat->Bool} {held:Bool}
theorem vec_of {n:Nat} {u0 u1 u2:Value} {z:DataW H × List MemPlace} (h:DataW.trod enc Tryz.prog w base spare held n 23 [u0,u1,u2] = some z):∃ x0 x1 x2:Int,u0 = .int .i64 x0/\u1 = .int .i64 x1/\u2 = .int .i64 x2/\(Lit.int .i64 x0).wf = true/\(Lit.int .i64 x1).wf = true/\(Lit.int .i64 x2).wf = true:=by
 have hc1:Tryz.prog.cellsOf 3 = 1:=by kernel_rfl
 obtain ⟨ys,m,_,_,_,hyl,hey⟩:=DataW.trod_struct Tryz.underlying23 h
 have some_y:∀ j,j < 3->∃ z,ys[j]? = some z:=fun j hj=>⟨_,List.getElem?_eq_getElem (by rw [hyl];exact hj)⟩
 obtain ⟨y0,hy0⟩:=some_y 0 (by omega)
 have g0:=hey 0 _ rfl
 rw [hy0] at g0
 have p0:DataW.trod enc Tryz.prog w base spare held m 3 [u0] = some y0:=by have this:DataW.trod enc Tryz.prog w base spare held m 3 (([u0,u1,u2].drop 0).take (Tryz.prog.cellsOf 3)) = some y0:=g0;rw [hc1] at this;exact this
 obtain ⟨y1,hy1⟩:=some_y 1 (by omega)
 have g1:=hey 1 _ rfl
 rw [hy1] at g1
 have p1:DataW.trod enc Tryz.prog w base spare held m 3 [u1] = some y1:=by have this:DataW.trod enc Tryz.prog w base spare held m 3 (([u0,u1,u2].drop 1).take (Tryz.prog.cellsOf 3)) = some y1:=g1;rw [hc1] at this;exact this
 obtain ⟨y2,hy2⟩:=some_y 2 (by omega)
 have g2:=hey 2 _ rfl
 rw [hy2] at g2
 have p2:DataW.trod enc Tryz.prog w base spare held m 3 [u2] = some y2:=by have this:DataW.trod enc Tryz.prog w base spare held m 3 (([u0,u1,u2].drop 2).take (Tryz.prog.cellsOf 3)) = some y2:=g2;rw [hc1] at this;exact this
 obtain ⟨x0,rfl,_,k0⟩:=lit_of p0
 obtain ⟨x1,rfl,_,k1⟩:=lit_of p1
 obtain ⟨x2,rfl,_,k2⟩:=lit_of p2
 exact ⟨x0,x1,x2,rfl,rfl,rfl,k0,k1,k2⟩
theorem quat_of {n:Nat} {u0 u1 u2 u3:Value} {z:DataW H × List MemPlace} (h:DataW.trod enc Tryz.prog w base spare held n 25 [u0,u1,u2,u3] = some z):∃ x0 x1 x2 x3:Int,u0 = .int .i64 x0/\u1 = .int .i64 x1/\u2 = .int .i64 x2/\u3 = .int .i64 x3/\(Lit.int .i64 x0).wf = true/\(Lit.int .i64 x1).wf = true/\(Lit.int .i64 x2).wf = true/\(Lit.int .i64 x3).wf = true:=by
 have hc1:Tryz.prog.cellsOf 3 = 1:=by kernel_rfl
 obtain ⟨ys,m,_,_,_,hyl,hey⟩:=DataW.trod_struct Tryz.underlying25 h
 have some_y:∀ j,j < 4->∃ z,ys[j]? = some z:=fun j hj=>⟨_,List.getElem?_eq_getElem (by rw [hyl];exact hj)⟩
 obtain ⟨y0,hy0⟩:=some_y 0 (by omega)
 have g0:=hey 0 _ rfl
 rw [hy0] at g0
 have p0:DataW.trod enc Tryz.prog w base spare held m 3 [u0] = some y0:=by have this:DataW.trod enc Tryz.prog w base spare held m 3 (([u0,u1,u2,u3].drop 0).take (Tryz.prog.cellsOf 3)) = some y0:=g0;rw [hc1] at this;exact this
 obtain ⟨y1,hy1⟩:=some_y 1 (by omega)
 have g1:=hey 1 _ rfl
 rw [hy1] at g1
 have p1:DataW.trod enc Tryz.prog w base spare held m 3 [u1] = some y1:=by have this:DataW.trod enc Tryz.prog w base spare held m 3 (([u0,u1,u2,u3].drop 1).take (Tryz.prog.cellsOf 3)) = some y1:=g1;rw [hc1] at this;exact this
 obtain ⟨y2,hy2⟩:=some_y 2 (by omega)
 have g2:=hey 2 _ rfl
 rw [hy2] at g2
 have p2:DataW.trod enc Tryz.prog w base spare held m 3 [u2] = some y2:=by have this:DataW.trod enc Tryz.prog w base spare held m 3 (([u0,u1,u2,u3].drop 2).take (Tryz.prog.cellsOf 3)) = some y2:=g2;rw [hc1] at this;exact this
 obtain ⟨y3,hy3⟩:=some_y 3 (by omega)
 have g3:=hey 3 _ rfl
 rw [hy3] at g3
 have p3:DataW.trod enc Tryz.prog w base spare held m 3 [u3] = some y3:=by have this:DataW.trod enc Tryz.prog w base spare held m 3 (([u0,u1,u2,u3].drop 3).take (Tryz.prog.cellsOf 3)) = some y3:=g3;rw [hc1] at this;exact this
 obtain ⟨x0,rfl,_,k0⟩:=lit_of p0
 obtain ⟨x1,rfl,_,k1⟩:=lit_of p1
 obtain ⟨x2,rfl,_,k2⟩:=lit_of p2
 obtain ⟨x3,rfl,_,k3⟩:=lit_of p3
 exact ⟨x0,x1,x2,x3,rfl,rfl,rfl,rfl,k0,k1,k2,k3⟩
end
end
section
open Go.ChangeShapes Go.WideShapes Go.Deep Go.Joins
theorem arr31 {cs:Array Value} (h:cs.size = 31):∃ u0 u1 u2 u3 u4 u5 u6 u7 u8 u9 u10 u11 u12 u13 u14 u15 u16 u17 u18 u19 u20 u21 u22 u23 u24 u25 u26 u27 u28 u29 u30,cs = #[u0,u1,u2,u3,u4,u5,u6,u7,u8,u9,u10,u11,u12,u13,u14,u15,u16,u17,u18,u19,u20,u21,u22,u23,u24,u25,u26,u27,u28,u29,u30]:=by
 obtain ⟨l⟩:=cs
 match l,h with
 | [u0,u1,u2,u3,u4,u5,u6,u7,u8,u9,u10,u11,u12,u13,u14,u15,u16,u17,u18,u19,u20,u21,u22,u23,u24,u25,u26,u27,u28,u29,u30],_=>exact ⟨u0,u1,u2,u3,u4,u5,u6,u7,u8,u9,u10,u11,u12,u13,u14,u15,u16,u17,u18,u19,u20,u21,u22,u23,u24,u25,u26,u27,u28,u29,u30,rfl⟩
section
variable {H:Type} {enc:TypeId × Value->H} {w:World} {base:Nat} {spare:Nat->Bool} {held:Bool}
theorem shape_of {fuel:Nat} {u0 u1 u2 u3 u4 u5:Value} {z:DataW H × List MemPlace} (hf2:DataW.trod enc Tryz.prog w base spare held fuel 33 [u0,u1,u2,u3,u4,u5] = some z) :
  ∃ (k rr x y z:Int) (a:Option Addr) (L:List Pt) (cap:Nat),u0 = .int .i64 k/\u1 = .int .i64 rr/\u2 = .int .i64 x/\u3 = .int .i64 y/\u4 = .int .i64 z/\u5 = .slice a L.length cap/\Lies w (.slice a L.length cap) L:=by
 obtain ⟨xs,n,_,_,_,hxl,hel⟩:=DataW.trod_struct Tryz.underlying33 hf2
 have hc1:Tryz.prog.cellsOf 3 = 1:=by kernel_rfl
 have hc3:Tryz.prog.cellsOf 30 = 3:=by kernel_rfl
 have hcs:Tryz.prog.cellsOf 31 = 1:=by kernel_rfl
 have some_of:∀ j,j < 4->∃ z,xs[j]? = some z:=fun j hj=>⟨_,List.getElem?_eq_getElem (by rw [hxl];exact hj)⟩
 obtain ⟨z0,hz0⟩:=some_of 0 (by omega)
 obtain ⟨z1,hz1⟩:=some_of 1 (by omega)
 obtain ⟨z2,hz2⟩:=some_of 2 (by omega)
 obtain ⟨z3,hz3⟩:=some_of 3 (by omega)
 have e0:=hel 0 _ rfl
 have e1:=hel 1 _ rfl
 have e2:=hel 2 _ rfl
 have e3:=hel 3 _ rfl
 rw [hz0] at e0
 rw [hz1] at e1
 rw [hz2] at e2
 rw [hz3] at e3
 have q0:DataW.trod enc Tryz.prog w base spare held n 3 [u0] = some z0:=by have this:DataW.trod enc Tryz.prog w base spare held n 3 (([u0,u1,u2,u3,u4,u5].drop 0).take (Tryz.prog.cellsOf 3)) = some z0:=e0;rw [hc1] at this;exact this
 have q1:DataW.trod enc Tryz.prog w base spare held n 3 [u1] = some z1:=by have this:DataW.trod enc Tryz.prog w base spare held n 3 (([u0,u1,u2,u3,u4,u5].drop 1).take (Tryz.prog.cellsOf 3)) = some z1:=e1;rw [hc1] at this;exact this
 have q2:DataW.trod enc Tryz.prog w base spare held n 30 [u2,u3,u4] = some z2:=by have this:DataW.trod enc Tryz.prog w base spare held n 30 (([u0,u1,u2,u3,u4,u5].drop 2).take (Tryz.prog.cellsOf 30)) = some z2:=e2;rw [hc3] at this;exact this
 have q3:DataW.trod enc Tryz.prog w base spare held n 31 [u5] = some z3:=by have this:DataW.trod enc Tryz.prog w base spare held n 31 (([u0,u1,u2,u3,u4,u5].drop 5).take (Tryz.prog.cellsOf 31)) = some z3:=e3;rw [hcs] at this;exact this
 obtain ⟨k,rfl,_,wk⟩:=lit_of q0
 obtain ⟨rr,rfl,_,wr⟩:=lit_of q1
 obtain ⟨ys,m,_,_,_,hyl,hey⟩:=DataW.trod_struct Tryz.underlying30 q2
 have some_y:∀ j,j < 3->∃ z,ys[j]? = some z:=fun j hj=>⟨_,List.getElem?_eq_getElem (by rw [hyl];exact hj)⟩
 obtain ⟨y0,hy0⟩:=some_y 0 (by omega)
 obtain ⟨y1,hy1⟩:=some_y 1 (by omega)
 obtain ⟨y2,hy2⟩:=some_y 2 (by omega)
 have g0:=hey 0 _ rfl
 have g1:=hey 1 _ rfl
 have g2:=hey 2 _ rfl
 rw [hy0] at g0
 rw [hy1] at g1
 rw [hy2] at g2
 have p0:DataW.trod enc Tryz.prog w base spare held m 3 [u2] = some y0:=by have this:DataW.trod enc Tryz.prog w base spare held m 3 (([u2,u3,u4].drop 0).take (Tryz.prog.cellsOf 3)) = some y0:=g0;rw [hc1] at this;exact this
 have p1:DataW.trod enc Tryz.prog w base spare held m 3 [u3] = some y1:=by have this:DataW.trod enc Tryz.prog w base spare held m 3 (([u2,u3,u4].drop 1).take (Tryz.prog.cellsOf 3)) = some y1:=g1;rw [hc1] at this;exact this
 have p2:DataW.trod enc Tryz.prog w base spare held m 3 [u4] = some y2:=by have this:DataW.trod enc Tryz.prog w base spare held m 3 (([u2,u3,u4].drop 2).take (Tryz.prog.cellsOf 3)) = some y2:=g2;rw [hc1] at this;exact this
 obtain ⟨x,rfl,_,wx⟩:=lit_of p0
 obtain ⟨y,rfl,_,wy⟩:=lit_of p1
 obtain ⟨z,rfl,_,wz⟩:=lit_of p2
 have hs:∃ a len cap,u5 = .slice a len cap:=by
  rcases Deep.open_slice Tryz.underlying31 q3 with ⟨hcs,_⟩ | ⟨y,l,c,mm,nn,D,Pl,hcs,_⟩
  ·simp at hcs;exact ⟨_,_,_,hcs⟩
  ·simp at hcs;exact ⟨_,_,_,hcs⟩
 obtain ⟨a,len,cap,rfl⟩:=hs
 obtain ⟨L,rfl,hL,hF⟩:=points_of q3
 exact ⟨k,rr,x,y,z,a,L,cap,rfl,rfl,rfl,rfl,rfl,rfl,hL⟩
theorem pose_of {fuel:Nat} {u0 u1 u2 u3 u4 u5 u6:Value} {z:DataW H × List MemPlace} (hf2:DataW.trod enc Tryz.prog w base spare held fuel 27 [u0,u1,u2,u3,u4,u5,u6] = some z) :
  ∃ x0 x1 x2 x3 x4 x5 x6:Int,u0 = .int .i64 x0/\u1 = .int .i64 x1/\u2 = .int .i64 x2/\u3 = .int .i64 x3/\u4 = .int .i64 x4/\u5 = .int .i64 x5/\u6 = .int .i64 x6:=by
 obtain ⟨xs,n,_,_,_,hxl,hel⟩:=DataW.trod_struct Tryz.underlying27 hf2
 have hc3:Tryz.prog.cellsOf 23 = 3:=by kernel_rfl
 have hc4:Tryz.prog.cellsOf 25 = 4:=by kernel_rfl
 have some_of:∀ j,j < 2->∃ z,xs[j]? = some z:=fun j hj=>⟨_,List.getElem?_eq_getElem (by rw [hxl];exact hj)⟩
 obtain ⟨z0,hz0⟩:=some_of 0 (by omega)
 obtain ⟨z1,hz1⟩:=some_of 1 (by omega)
 have e0:=hel 0 _ rfl
 have e1:=hel 1 _ rfl
 rw [hz0] at e0
 rw [hz1] at e1
 have q0:DataW.trod enc Tryz.prog w base spare held n 23 [u0,u1,u2] = some z0:=by have this:DataW.trod enc Tryz.prog w base spare held n 23 (([u0,u1,u2,u3,u4,u5,u6].drop 0).take (Tryz.prog.cellsOf 23)) = some z0:=e0;rw [hc3] at this;exact this
 have q1:DataW.trod enc Tryz.prog w base spare held n 25 [u3,u4,u5,u6] = some z1:=by have this:DataW.trod enc Tryz.prog w base spare held n 25 (([u0,u1,u2,u3,u4,u5,u6].drop 3).take (Tryz.prog.cellsOf 25)) = some z1:=e1;rw [hc4] at this;exact this
 obtain ⟨x0,x1,x2,rfl,rfl,rfl,k0,k1,k2⟩:=vec_of q0
 obtain ⟨x3,x4,x5,x6,rfl,rfl,rfl,rfl,k3,k4,k5,k6⟩:=quat_of q1
 exact ⟨x0,x1,x2,x3,x4,x5,x6,rfl,rfl,rfl,rfl,rfl,rfl,rfl⟩
theorem vec12_of {m:Nat} {u0 u1 u2:Value} {z:DataW H × List MemPlace} (h:DataW.trod enc Tryz.prog w base spare held m 23 [u0,u1,u2] = some z):∃ x0 x1 x2:Int,u0 = .int .i64 x0/\u1 = .int .i64 x1/\u2 = .int .i64 x2/\(Lit.int .i64 x0).wf = true/\(Lit.int .i64 x1).wf = true/\(Lit.int .i64 x2).wf = true:=by
 have hc1:Tryz.prog.cellsOf 3 = 1:=by kernel_rfl
 obtain ⟨ys,m,_,_,_,hyl,hey⟩:=DataW.trod_struct Tryz.underlying23 h
 have some_y:∀ j,j < 3->∃ z,ys[j]? = some z:=fun j hj=>⟨_,List.getElem?_eq_getElem (by rw [hyl];exact hj)⟩
 obtain ⟨y0,hy0⟩:=some_y 0 (by omega)
 have g0:=hey 0 _ rfl
 rw [hy0] at g0
 have p0:DataW.trod enc Tryz.prog w base spare held m 3 [u0] = some y0:=by have this:DataW.trod enc Tryz.prog w base spare held m 3 (([u0,u1,u2].drop 0).take (Tryz.prog.cellsOf 3)) = some y0:=g0;rw [hc1] at this;exact this
 obtain ⟨y1,hy1⟩:=some_y 1 (by omega)
 have g1:=hey 1 _ rfl
 rw [hy1] at g1
 have p1:DataW.trod enc Tryz.prog w base spare held m 3 [u1] = some y1:=by have this:DataW.trod enc Tryz.prog w base spare held m 3 (([u0,u1,u2].drop 1).take (Tryz.prog.cellsOf 3)) = some y1:=g1;rw [hc1] at this;exact this
 obtain ⟨y2,hy2⟩:=some_y 2 (by omega)
 have g2:=hey 2 _ rfl
 rw [hy2] at g2
 have p2:DataW.trod enc Tryz.prog w base spare held m 3 [u2] = some y2:=by have this:DataW.trod enc Tryz.prog w base spare held m 3 (([u0,u1,u2].drop 2).take (Tryz.prog.cellsOf 3)) = some y2:=g2;rw [hc1] at this;exact this
 obtain ⟨x0,rfl,_,k0⟩:=lit_of p0
 obtain ⟨x1,rfl,_,k1⟩:=lit_of p1
 obtain ⟨x2,rfl,_,k2⟩:=lit_of p2
 exact ⟨x0,x1,x2,rfl,rfl,rfl,k0,k1,k2⟩
theorem mass_of12 {m:Nat} {u0 u1 u2 u3:Value} {z:DataW H × List MemPlace} (h:DataW.trod enc Tryz.prog w base spare held m 29 [u0,u1,u2,u3] = some z):∃ x0 x1 x2 x3:Int,u0 = .int .i64 x0/\u1 = .int .i64 x1/\u2 = .int .i64 x2/\u3 = .int .i64 x3:=by
 have hc1:Tryz.prog.cellsOf 3 = 1:=by kernel_rfl
 have hc3:Tryz.prog.cellsOf 23 = 3:=by kernel_rfl
 obtain ⟨ys,m,_,_,_,hyl,hey⟩:=DataW.trod_struct Tryz.underlying29 h
 have some_y:∀ j,j < 2->∃ z,ys[j]? = some z:=fun j hj=>⟨_,List.getElem?_eq_getElem (by rw [hyl];exact hj)⟩
 obtain ⟨y0,hy0⟩:=some_y 0 (by omega)
 obtain ⟨y1,hy1⟩:=some_y 1 (by omega)
 have g0:=hey 0 _ rfl
 have g1:=hey 1 _ rfl
 rw [hy0] at g0
 rw [hy1] at g1
 have p0:DataW.trod enc Tryz.prog w base spare held m 3 [u0] = some y0:=by have this:DataW.trod enc Tryz.prog w base spare held m 3 (([u0,u1,u2,u3].drop 0).take (Tryz.prog.cellsOf 3)) = some y0:=g0;rw [hc1] at this;exact this
 have p1:DataW.trod enc Tryz.prog w base spare held m 23 [u1,u2,u3] = some y1:=by have this:DataW.trod enc Tryz.prog w base spare held m 23 (([u0,u1,u2,u3].drop 1).take (Tryz.prog.cellsOf 23)) = some y1:=g1;rw [hc3] at this;exact this
 obtain ⟨x0,rfl,_,_⟩:=lit_of p0
 obtain ⟨x1,x2,x3,rfl,rfl,rfl,_⟩:=vec12_of p1
 exact ⟨x0,x1,x2,x3,rfl,rfl,rfl,rfl⟩
theorem bool_of {m:Nat} {u:Value} {z:DataW H × List MemPlace} (h:DataW.trod enc Tryz.prog w base spare held m 4 [u] = some z):∃ x:Bool,u = .bool x:=by
 obtain ⟨x,hx,_⟩:=DataW.trod_bool Tryz.underlying4 h
 exact ⟨x,by simpa using hx⟩
theorem arr3u {cs:Array Value} (h:cs.size = 3):∃ u0 u1 u2,cs = #[u0,u1,u2]:=by
 obtain ⟨l⟩:=cs
 match l,h with
 | [a,b,c],_=>exact ⟨a,b,c,rfl⟩
theorem open_vec12 {r:Reach} {b0:Nat} {v:Value} {d:DataW H} {p:List MemPlace} (hv:Value.okWide Tryz.prog w r b0 23 v) (h:DataW.Trod enc Tryz.prog w base spare held 23 v d p):∃ a:V3,v = a.val:=by
 obtain ⟨cs,rfl,hsz⟩:=okWide_struct Tryz.underlying23 hv
 have hC:Tryz.prog.cellsOf 23 = 3:=by kernel_rfl
 obtain ⟨u0,u1,u2,rfl⟩:=arr3u (hsz.trans hC)
 obtain ⟨fuel,hf⟩:=h
 obtain ⟨x,y,z,rfl,rfl,rfl,_⟩:=vec12_of (show DataW.trod enc Tryz.prog w base spare held fuel 23 [u0,u1,u2] = some (d,p) from hf)
 exact ⟨⟨x,y,z⟩,rfl⟩
theorem open_body {r:Reach} {b0:Nat} {v:Value} {d:DataW H} {p:List MemPlace} (hv:Value.okWide Tryz.prog w r b0 35 v) (h:DataW.Trod enc Tryz.prog w base spare held 35 v d p) :
  ∃ (b:Bd) (r:Rs) (o:Option Addr) (c:Nat),v = .agg (b.L (r.l (.slice o r.sh.pts.length c))).toArray/\Lies w (.slice o r.sh.pts.length c) r.sh.pts/\(∀ v ∈ ([b.p.x,b.p.y,b.p.z,b.l.x,b.l.y,b.l.z]:List Int),-9223372036854775808 <= v/\v <= 9223372036854775807):=by
 obtain ⟨cs,rfl,hsz⟩:=okWide_struct Tryz.underlying35 hv
 have hC:Tryz.prog.cellsOf 35 = 31:=by kernel_rfl
 obtain ⟨u0,u1,u2,u3,u4,u5,u6,u7,u8,u9,u10,u11,u12,u13,u14,u15,u16,u17,u18,u19,u20,u21,u22,u23,u24,u25,u26,u27,u28,u29,u30,rfl⟩:=arr31 (hsz.trans hC)
 obtain ⟨fuel,hf⟩:=h
 have hf2:DataW.trod enc Tryz.prog w base spare held fuel 35 [u0,u1,u2,u3,u4,u5,u6,u7,u8,u9,u10,u11,u12,u13,u14,u15,u16,u17,u18,u19,u20,u21,u22,u23,u24,u25,u26,u27,u28,u29,u30] = some (d,p):=hf
 obtain ⟨xs,n,_,_,_,hxl,hel⟩:=DataW.trod_struct Tryz.underlying35 hf2
 have some_of:∀ j,j < 13->∃ z,xs[j]? = some z:=fun j hj=>⟨_,List.getElem?_eq_getElem (by rw [hxl];exact hj)⟩
 have hc0_:Tryz.prog.cellsOf 3 = 1:=by kernel_rfl
 obtain ⟨zz0,hz0⟩:=some_of 0 (by omega)
 have e0:=hel 0 _ rfl
 rw [hz0] at e0
 have f0:DataW.trod enc Tryz.prog w base spare held n 3 [u0] = some zz0:=by have this:DataW.trod enc Tryz.prog w base spare held n 3 (([u0,u1,u2,u3,u4,u5,u6,u7,u8,u9,u10,u11,u12,u13,u14,u15,u16,u17,u18,u19,u20,u21,u22,u23,u24,u25,u26,u27,u28,u29,u30].drop 0).take (Tryz.prog.cellsOf 3)) = some zz0:=e0;rw [hc0_] at this;exact this
 have hc1_:Tryz.prog.cellsOf 27 = 7:=by kernel_rfl
 obtain ⟨zz1,hz1⟩:=some_of 1 (by omega)
 have e1:=hel 1 _ rfl
 rw [hz1] at e1
 have f1:DataW.trod enc Tryz.prog w base spare held n 27 [u1,u2,u3,u4,u5,u6,u7] = some zz1:=by have this:DataW.trod enc Tryz.prog w base spare held n 27 (([u0,u1,u2,u3,u4,u5,u6,u7,u8,u9,u10,u11,u12,u13,u14,u15,u16,u17,u18,u19,u20,u21,u22,u23,u24,u25,u26,u27,u28,u29,u30].drop 1).take (Tryz.prog.cellsOf 27)) = some zz1:=e1;rw [hc1_] at this;exact this
 have hc2_:Tryz.prog.cellsOf 23 = 3:=by kernel_rfl
 obtain ⟨zz2,hz2⟩:=some_of 2 (by omega)
 have e2:=hel 2 _ rfl
 rw [hz2] at e2
 have f2:DataW.trod enc Tryz.prog w base spare held n 23 [u8,u9,u10] = some zz2:=by have this:DataW.trod enc Tryz.prog w base spare held n 23 (([u0,u1,u2,u3,u4,u5,u6,u7,u8,u9,u10,u11,u12,u13,u14,u15,u16,u17,u18,u19,u20,u21,u22,u23,u24,u25,u26,u27,u28,u29,u30].drop 8).take (Tryz.prog.cellsOf 23)) = some zz2:=e2;rw [hc2_] at this;exact this
 have hc3_:Tryz.prog.cellsOf 23 = 3:=by kernel_rfl
 obtain ⟨zz3,hz3⟩:=some_of 3 (by omega)
 have e3:=hel 3 _ rfl
 rw [hz3] at e3
 have f3:DataW.trod enc Tryz.prog w base spare held n 23 [u11,u12,u13] = some zz3:=by have this:DataW.trod enc Tryz.prog w base spare held n 23 (([u0,u1,u2,u3,u4,u5,u6,u7,u8,u9,u10,u11,u12,u13,u14,u15,u16,u17,u18,u19,u20,u21,u22,u23,u24,u25,u26,u27,u28,u29,u30].drop 11).take (Tryz.prog.cellsOf 23)) = some zz3:=e3;rw [hc3_] at this;exact this
 have hc4_:Tryz.prog.cellsOf 29 = 4:=by kernel_rfl
 obtain ⟨zz4,hz4⟩:=some_of 4 (by omega)
 have e4:=hel 4 _ rfl
 rw [hz4] at e4
 have f4:DataW.trod enc Tryz.prog w base spare held n 29 [u14,u15,u16,u17] = some zz4:=by have this:DataW.trod enc Tryz.prog w base spare held n 29 (([u0,u1,u2,u3,u4,u5,u6,u7,u8,u9,u10,u11,u12,u13,u14,u15,u16,u17,u18,u19,u20,u21,u22,u23,u24,u25,u26,u27,u28,u29,u30].drop 14).take (Tryz.prog.cellsOf 29)) = some zz4:=e4;rw [hc4_] at this;exact this
 have hc5_:Tryz.prog.cellsOf 33 = 6:=by kernel_rfl
 obtain ⟨zz5,hz5⟩:=some_of 5 (by omega)
 have e5:=hel 5 _ rfl
 rw [hz5] at e5
 have f5:DataW.trod enc Tryz.prog w base spare held n 33 [u18,u19,u20,u21,u22,u23] = some zz5:=by have this:DataW.trod enc Tryz.prog w base spare held n 33 (([u0,u1,u2,u3,u4,u5,u6,u7,u8,u9,u10,u11,u12,u13,u14,u15,u16,u17,u18,u19,u20,u21,u22,u23,u24,u25,u26,u27,u28,u29,u30].drop 18).take (Tryz.prog.cellsOf 33)) = some zz5:=e5;rw [hc5_] at this;exact this
 have hc6_:Tryz.prog.cellsOf 3 = 1:=by kernel_rfl
 obtain ⟨zz6,hz6⟩:=some_of 6 (by omega)
 have e6:=hel 6 _ rfl
 rw [hz6] at e6
 have f6:DataW.trod enc Tryz.prog w base spare held n 3 [u24] = some zz6:=by have this:DataW.trod enc Tryz.prog w base spare held n 3 (([u0,u1,u2,u3,u4,u5,u6,u7,u8,u9,u10,u11,u12,u13,u14,u15,u16,u17,u18,u19,u20,u21,u22,u23,u24,u25,u26,u27,u28,u29,u30].drop 24).take (Tryz.prog.cellsOf 3)) = some zz6:=e6;rw [hc6_] at this;exact this
 have hc7_:Tryz.prog.cellsOf 3 = 1:=by kernel_rfl
 obtain ⟨zz7,hz7⟩:=some_of 7 (by omega)
 have e7:=hel 7 _ rfl
 rw [hz7] at e7
 have f7:DataW.trod enc Tryz.prog w base spare held n 3 [u25] = some zz7:=by have this:DataW.trod enc Tryz.prog w base spare held n 3 (([u0,u1,u2,u3,u4,u5,u6,u7,u8,u9,u10,u11,u12,u13,u14,u15,u16,u17,u18,u19,u20,u21,u22,u23,u24,u25,u26,u27,u28,u29,u30].drop 25).take (Tryz.prog.cellsOf 3)) = some zz7:=e7;rw [hc7_] at this;exact this
 have hc8_:Tryz.prog.cellsOf 3 = 1:=by kernel_rfl
 obtain ⟨zz8,hz8⟩:=some_of 8 (by omega)
 have e8:=hel 8 _ rfl
 rw [hz8] at e8
 have f8:DataW.trod enc Tryz.prog w base spare held n 3 [u26] = some zz8:=by have this:DataW.trod enc Tryz.prog w base spare held n 3 (([u0,u1,u2,u3,u4,u5,u6,u7,u8,u9,u10,u11,u12,u13,u14,u15,u16,u17,u18,u19,u20,u21,u22,u23,u24,u25,u26,u27,u28,u29,u30].drop 26).take (Tryz.prog.cellsOf 3)) = some zz8:=e8;rw [hc8_] at this;exact this
 have hc9_:Tryz.prog.cellsOf 4 = 1:=by kernel_rfl
 obtain ⟨zz9,hz9⟩:=some_of 9 (by omega)
 have e9:=hel 9 _ rfl
 rw [hz9] at e9
 have f9:DataW.trod enc Tryz.prog w base spare held n 4 [u27] = some zz9:=by have this:DataW.trod enc Tryz.prog w base spare held n 4 (([u0,u1,u2,u3,u4,u5,u6,u7,u8,u9,u10,u11,u12,u13,u14,u15,u16,u17,u18,u19,u20,u21,u22,u23,u24,u25,u26,u27,u28,u29,u30].drop 27).take (Tryz.prog.cellsOf 4)) = some zz9:=e9;rw [hc9_] at this;exact this
 have hc10_:Tryz.prog.cellsOf 3 = 1:=by kernel_rfl
 obtain ⟨zz10,hz10⟩:=some_of 10 (by omega)
 have e10:=hel 10 _ rfl
 rw [hz10] at e10
 have f10:DataW.trod enc Tryz.prog w base spare held n 3 [u28] = some zz10:=by have this:DataW.trod enc Tryz.prog w base spare held n 3 (([u0,u1,u2,u3,u4,u5,u6,u7,u8,u9,u10,u11,u12,u13,u14,u15,u16,u17,u18,u19,u20,u21,u22,u23,u24,u25,u26,u27,u28,u29,u30].drop 28).take (Tryz.prog.cellsOf 3)) = some zz10:=e10;rw [hc10_] at this;exact this
 have hc11_:Tryz.prog.cellsOf 4 = 1:=by kernel_rfl
 obtain ⟨zz11,hz11⟩:=some_of 11 (by omega)
 have e11:=hel 11 _ rfl
 rw [hz11] at e11
 have f11:DataW.trod enc Tryz.prog w base spare held n 4 [u29] = some zz11:=by have this:DataW.trod enc Tryz.prog w base spare held n 4 (([u0,u1,u2,u3,u4,u5,u6,u7,u8,u9,u10,u11,u12,u13,u14,u15,u16,u17,u18,u19,u20,u21,u22,u23,u24,u25,u26,u27,u28,u29,u30].drop 29).take (Tryz.prog.cellsOf 4)) = some zz11:=e11;rw [hc11_] at this;exact this
 have hc12_:Tryz.prog.cellsOf 4 = 1:=by kernel_rfl
 obtain ⟨zz12,hz12⟩:=some_of 12 (by omega)
 have e12:=hel 12 _ rfl
 rw [hz12] at e12
 have f12:DataW.trod enc Tryz.prog w base spare held n 4 [u30] = some zz12:=by have this:DataW.trod enc Tryz.prog w base spare held n 4 (([u0,u1,u2,u3,u4,u5,u6,u7,u8,u9,u10,u11,u12,u13,u14,u15,u16,u17,u18,u19,u20,u21,u22,u23,u24,u25,u26,u27,u28,u29,u30].drop 30).take (Tryz.prog.cellsOf 4)) = some zz12:=e12;rw [hc12_] at this;exact this
 clear hel some_of hxl hf2 hf hv
 obtain ⟨k,rfl,_,_⟩:=lit_of f0
 obtain ⟨s0,s1,s2,q0,q1,q2,q3,rfl,rfl,rfl,rfl,rfl,rfl,rfl⟩:=pose_of f1
 obtain ⟨p0,p1,p2,rfl,rfl,rfl,a0,a1,a2⟩:=vec12_of f2
 obtain ⟨l0,l1,l2,rfl,rfl,rfl,a3,a4,a5⟩:=vec12_of f3
 obtain ⟨m,i0,i1,i2,rfl,rfl,rfl,rfl⟩:=mass_of12 f4
 obtain ⟨sk,sr,hx,hy,hz,o,L,c,rfl,rfl,rfl,rfl,rfl,rfl,hL⟩:=shape_of f5
 obtain ⟨g,rfl,_,_⟩:=lit_of f6
 obtain ⟨ma,rfl,_,_⟩:=lit_of f7
 obtain ⟨fr,rfl,_,_⟩:=lit_of f8
 obtain ⟨fa,rfl⟩:=bool_of f9
 obtain ⟨qu,rfl,_,_⟩:=lit_of f10
 obtain ⟨al,rfl⟩:=bool_of f11
 obtain ⟨ou,rfl⟩:=bool_of f12
 refine ⟨⟨k,⟨s0,s1,s2⟩,⟨q0,q1,q2,q3⟩,⟨p0,p1,p2⟩,⟨l0,l1,l2⟩,m,⟨i0,i1,i2⟩⟩,⟨⟨sk,sr,⟨hx,hy,hz⟩,L⟩,g,ma,fr,fa,qu,al,ou⟩,o,c,rfl,hL,fun v hv=>?_⟩
 have wf:(Lit.int .i64 v).wf = true:=by
  simp only [List.mem_cons,List.not_mem_nil,or_false] at hv
  rcases hv with rfl | rfl | rfl | rfl | rfl | rfl <;> assumption
 have:=bounds_i64 wf
 omega
end
end
section
open Go.RowKit Go.Shelf Fx
theorem CW.flag {p:Nat} {g:Bool} {V V':World} (a:After ⟨p,0,none⟩ g V V'):CW V' p [.bool g]:=fun i v e=>by
 match i,e with
 | 0,e=>cases e;exact ⟨a.cell,a.frozen⟩
 | n + 1,e=>simp at e
def V3.l (a:V3):List Value:=[.int .i64 a.x,.int .i64 a.y,.int .i64 a.z]
structure BR (W0:World) (pb pa pj pw pr px py:Nat) (cb:List Value) (am jm:V3) (g1 g2:Bool) (cx cy:List Value) (V:World):Prop where
 below:Below W0.heap.size W0 V
 cb:CW V pb cb
 ca:CW V pa am.l
 cj:CW V pj jm.l
 cw:CW V pw [.bool g1]
 cr:CW V pr [.bool g2]
 cx:CW V px cx
 cy:CW V py cy
 o:W0.heap.size <= pb/\pb < pa/\pa < pj/\pj < pw/\pw < pr/\pr < px/\px < py
section
variable {W0 V V':World} {pb pa pj pw pr px py:Nat} {cb cx cy us:List Value} {am jm:V3} {g1 g2 g:Bool}
theorem BR.w (h:BR W0 pb pa pj pw pr px py cb am jm g1 g2 cx cy V) (a:After ⟨pw,0,none⟩ g V V'):BR W0 pb pa pj pw pr px py cb am jm g g2 cx cy V':=by
 obtain ⟨o0,o1,o2,o3,o4,o5,o6⟩:=h.o
 exact ⟨a.on h.below (by show _ <= pw;omega),h.cb.after a (by show pb ≠ pw;omega),h.ca.after a (by show pa ≠ pw;omega),h.cj.after a (by show pj ≠ pw;omega),CW.flag a,h.cr.after a (by show pr ≠ pw;omega),h.cx.after a (by show px ≠ pw;omega),h.cy.after a (by show py ≠ pw;omega),h.o⟩
theorem BR.r (h:BR W0 pb pa pj pw pr px py cb am jm g1 g2 cx cy V) (a:After ⟨pr,0,none⟩ g V V'):BR W0 pb pa pj pw pr px py cb am jm g1 g cx cy V':=by
 obtain ⟨o0,o1,o2,o3,o4,o5,o6⟩:=h.o
 exact ⟨a.on h.below (by show _ <= pr;omega),h.cb.after a (by show pb ≠ pr;omega),h.ca.after a (by show pa ≠ pr;omega),h.cj.after a (by show pj ≠ pr;omega),h.cw.after a (by show pw ≠ pr;omega),CW.flag a,h.cx.after a (by show px ≠ pr;omega),h.cy.after a (by show py ≠ pr;omega),h.o⟩
theorem BR.sx (h:BR W0 pb pa pj pw pr px py cb am jm g1 g2 cx cy V) (hl:us.length = cx.length):BR W0 pb pa pj pw pr px py cb am jm g1 g2 us cy (V.setCells px 0 us):=by
 obtain ⟨o0,o1,o2,o3,o4,o5,o6⟩:=h.o
 exact ⟨h.below.trans (below_sets (by omega) _ _ _),h.cb.apart (by omega),h.ca.apart (by omega),h.cj.apart (by omega),h.cw.apart (by omega),h.cr.apart (by omega),h.cx.sets hl,h.cy.apart (by omega),h.o⟩
theorem BR.sy (h:BR W0 pb pa pj pw pr px py cb am jm g1 g2 cx cy V) (hl:us.length = cy.length):BR W0 pb pa pj pw pr px py cb am jm g1 g2 cx us (V.setCells py 0 us):=by
 obtain ⟨o0,o1,o2,o3,o4,o5,o6⟩:=h.o
 exact ⟨h.below.trans (below_sets (by omega) _ _ _),h.cb.apart (by omega),h.ca.apart (by omega),h.cj.apart (by omega),h.cw.apart (by omega),h.cr.apart (by omega),h.cx.apart (by omega),h.cy.sets hl,h.o⟩
theorem CW.put3 {b:Nat} (h:CW V pb cb) (hne:b ≠ pb) (i j k:Nat) (x y z:Value):CW (((V.setCell ⟨b,i,none⟩ x).setCell ⟨b,j,none⟩ y).setCell ⟨b,k,none⟩ z) pb cb:=
 ((h.other (a:=⟨b,i,none⟩) hne x).other (a:=⟨b,j,none⟩) hne y).other (a:=⟨b,k,none⟩) hne z
theorem below_put3 {b B:Nat} (hb:B <= b) (i j k:Nat) (x y z:Value):Below B V (((V.setCell ⟨b,i,none⟩ x).setCell ⟨b,j,none⟩ y).setCell ⟨b,k,none⟩ z):=
 (((Below.refl B V).setCell hb x).setCell hb y).setCell hb z
theorem CW.wp {b:Bd} {R:List Value} {p:Nat} (hR:Rest R) (h:CW V p (b.L R)) (q:V3):CW (((V.setCell ⟨p,8,none⟩ (.int .i64 q.x)).setCell ⟨p,9,none⟩ (.int .i64 q.y)).setCell ⟨p,10,none⟩ (.int .i64 q.z)) p ((b.wp q).L R):=by
 have:=((h.set 8 (.int .i64 q.x) (by rw [hR.all];decide)).set 9 (.int .i64 q.y) (by rw [List.length_set,hR.all];decide)).set 10 (.int .i64 q.z) (by rw [List.length_set,List.length_set,hR.all];decide)
 rwa [bd_p] at this
theorem BR.x3 {b:Bd} {R:List Value} (hR:Rest R) (h:BR W0 pb pa pj pw pr px py cb am jm g1 g2 (b.L R) cy V) (q:V3):BR W0 pb pa pj pw pr px py cb am jm g1 g2 ((b.wp q).L R) cy (((V.setCell ⟨px,8,none⟩ (.int .i64 q.x)).setCell ⟨px,9,none⟩ (.int .i64 q.y)).setCell ⟨px,10,none⟩ (.int .i64 q.z)):=by
 obtain ⟨o0,o1,o2,o3,o4,o5,o6⟩:=h.o
 exact ⟨h.below.trans (below_put3 (by omega) _ _ _ _ _ _),h.cb.put3 (by omega) _ _ _ _ _ _,h.ca.put3 (by omega) _ _ _ _ _ _,h.cj.put3 (by omega) _ _ _ _ _ _,h.cw.put3 (by omega) _ _ _ _ _ _,h.cr.put3 (by omega) _ _ _ _ _ _,h.cx.wp hR q,h.cy.put3 (by omega) _ _ _ _ _ _,h.o⟩
theorem BR.y3 {b:Bd} {R:List Value} (hR:Rest R) (h:BR W0 pb pa pj pw pr px py cb am jm g1 g2 cx (b.L R) V) (q:V3):BR W0 pb pa pj pw pr px py cb am jm g1 g2 cx ((b.wp q).L R) (((V.setCell ⟨py,8,none⟩ (.int .i64 q.x)).setCell ⟨py,9,none⟩ (.int .i64 q.y)).setCell ⟨py,10,none⟩ (.int .i64 q.z)):=by
 obtain ⟨o0,o1,o2,o3,o4,o5,o6⟩:=h.o
 exact ⟨h.below.trans (below_put3 (by omega) _ _ _ _ _ _),h.cb.put3 (by omega) _ _ _ _ _ _,h.ca.put3 (by omega) _ _ _ _ _ _,h.cj.put3 (by omega) _ _ _ _ _ _,h.cw.put3 (by omega) _ _ _ _ _ _,h.cr.put3 (by omega) _ _ _ _ _ _,h.cx.put3 (by omega) _ _ _ _ _ _,h.cy.wp hR q,h.o⟩
theorem BR.step (h:BR W0 pb pa pj pw pr px py cb am jm g1 g2 cx cy V) (hb:Below V.heap.size V V'):BR W0 pb pa pj pw pr px py cb am jm g1 g2 cx cy V':=
 ⟨b_step h.below hb,h.cb.step hb,h.ca.step hb,h.cj.step hb,h.cw.step hb,h.cr.step hb,h.cx.step hb,h.cy.step hb,h.o⟩
theorem own_after {p:Addr} {base n:Nat} {u:Value} {xs:List Value} {T sz:Nat} (h:V.ownsRow base T sz u n xs) (a:After p g V V') (hp:p.block < base):V'.ownsRow base T sz u n xs:=
 own_heap h fun k hk=>a.kept.2.2.2 k (h.lt k hk).2 (fun e=>by have:=(h.lt k hk).1;rw [e] at this;exact absurd this (Nat.not_le.2 hp))
theorem own_ne {base n k:Nat} {u:Value} {xs:List Value} {T sz:Nat} (h:V.ownsRow base T sz u n xs) (hk:k < base):u.ownBlock ≠ some k:=fun e=>by have:=(h.lt k e).1;omega
structure BS (W0:World) (pb pa pj:Nat) (cb:List Value) (am jm:V3) (V:World):Prop where
 below:Below W0.heap.size W0 V
 cb:CW V pb cb
 ca:CW V pa am.l
 cj:CW V pj jm.l
 o:W0.heap.size <= pb/\pb < pa/\pa < pj/\pj < V.heap.size
theorem BS.step (h:BS W0 pb pa pj cb am jm V) (hb:Below V.heap.size V V'):BS W0 pb pa pj cb am jm V':=
 ⟨b_step h.below hb,h.cb.step hb,h.ca.step hb,h.cj.step hb,h.o.1,h.o.2.1,h.o.2.2.1,Nat.lt_of_lt_of_le h.o.2.2.2 hb.size⟩
end
theorem sml_of {b:Bd} (hb:∀ v ∈ ([b.p.x,b.p.y,b.p.z,b.l.x,b.l.y,b.l.z]:List Int),-9223372036854775808 <= v/\v <= 9223372036854775807):Sml 64 b.p/\Sml 64 b.l:=by
 have h0:=hb b.p.x (by simp)
 have h1:=hb b.p.y (by simp)
 have h2:=hb b.p.z (by simp)
 have h3:=hb b.l.x (by simp)
 have h4:=hb b.l.y (by simp)
 have h5:=hb b.l.z (by simp)
 refine ⟨⟨?_,?_,?_⟩,?_,?_,?_⟩ <;> omega
end
end Go.Proofs.YtpjaacpcdomfiaaGreat
