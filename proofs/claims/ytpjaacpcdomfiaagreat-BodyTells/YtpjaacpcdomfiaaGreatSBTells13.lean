/- Package body: which bodies may be. -/
import Derived.Test.YtpjaacpcdomfiaaGreatSBTells10
import Derived.Test.YtpjaacpcdomfiaaGreatSBTells11
import Derived.Test.YtpjaacpcdomfiaaGreatSBTells12
import Derived.Lib.BufferMore
import Derived.Test.YtpjaacpcdomfiaaGreatSBTells1
import Derived.Test.YtpjaacpcdomfiaaGreatSBTells0
set_option maxHeartbeats 8000000
set_option maxRecDepth 100000
set_option linter.unusedVariables false
namespace Go.Proofs.YtpjaacpcdomfiaaGreat
section
open Go.RowKit Go.Shelf Fx
def inV (a:V3) (m:Int):Bool:=inR a.x (-m) m && (inR a.y (-m) m && inR a.z (-m) m)
def whlB (q:V4):Bool:=inR ((norm [q.w,q.x,q.y,q.z]).getD 0) 4294967288 4294967304
def mssB (b:Bd):Bool:=inR b.m 16777216 1099511627776 && (inR b.i.x 4096 562949953421312 && (inR b.i.y 4096 562949953421312 && inR b.i.z 4096 562949953421312))
def frmB (b:Bd) (fr:Int):Bool:=(decide (b.k = 1) || decide (b.k = 2)) && (inV b.s 4398046511104 && (whlB b.q && (inR fr 0 4294967296 && (inV b.p 18014398509481984 && inV b.l 18014398509481984))))
def chkB (b:Bd) (fr:Int) (sh:Sh):Int:=if frmB b fr then (if checkP sh = 0 then (if b.k = 2/\mssB b = false then 120 else 0) else checkP sh) else 1
theorem tbetween_any (n a b:Int) (w:World) :
  Calls Tryz.prog 93 #[.int .i64 n,.int .i64 a,.int .i64 b] w fun e w'=>e = .returned (.bool (inR n a b))/\w' = w:=by
 unfold inR
 by_cases h1:a <= n
 ·go_enter Tryz.func93,Tryz.ntmps93
  go_wp2
  go_ret
  exact ⟨by simp [h1],rfl⟩
 ·go_enter Tryz.func93,Tryz.ntmps93
  go_wp2
  go_ret
  exact ⟨by simp;omega,rfl⟩
theorem twithin_any (a:V3) (m:Int) (W:World) (hm:0 <= m) (hm':m <= 1152921504606846976) :
  Calls Tryz.prog 48 #[a.val,.int .i64 m] W fun e W'=>e = .returned (.bool (inV a m))/\Hid (Below W.heap.size W W'):=by
 obtain ⟨x,y,z⟩:=a
 have H0:Hid _:=tbetween_any x (-m) m
 have H1:Hid _:=tbetween_any y (-m) m
 have H2:Hid _:=tbetween_any z (-m) m
 have HB:Hid _:=n_after W (.cells #[.int .i64 x,.int .i64 y,.int .i64 z] 23)
 have e0:IntKind.i64.wrap (-m) = -m:=by rw [IntKind.wrap_i64];omega
 unfold inV
 dsimp only
 generalize inR x (-m) m = c0 at *
 generalize inR y (-m) m = c1 at *
 generalize inR z (-m) m = c2 at *
 cases c0 with
 | false =>
  go_enter Tryz.func48,Tryz.ntmps48
  go_wp2_with (fail)
  refine Calls.mono (H0.out _) ?_
  rintro e w0 ⟨rfl,rfl⟩
  go_wp2_with (fail)
  go_ret
  exact ⟨by simp,HB⟩
 | true =>
  cases c1 with
  | false =>
   go_enter Tryz.func48,Tryz.ntmps48
   go_wp2_with (fail)
   refine Calls.mono (H0.out _) ?_
   rintro e w0 ⟨rfl,rfl⟩
   go_wp2_with (fail)
   refine Calls.mono (H1.out _) ?_
   rintro e w1 ⟨rfl,rfl⟩
   go_wp2_with (fail)
   go_ret
   exact ⟨by simp,HB⟩
  | true =>
   go_enter Tryz.func48,Tryz.ntmps48
   go_wp2_with (fail)
   refine Calls.mono (H0.out _) ?_
   rintro e w0 ⟨rfl,rfl⟩
   go_wp2_with (fail)
   refine Calls.mono (H1.out _) ?_
   rintro e w1 ⟨rfl,rfl⟩
   go_wp2_with (fail)
   refine Calls.mono (H2.out _) ?_
   rintro e w2 ⟨rfl,rfl⟩
   go_wp2_with (fail)
   go_ret
   exact ⟨by simp,HB⟩
theorem twhole_any (q:V4) (W:World) :
  Calls Tryz.prog 92 #[q.val] W fun e W'=>e = .returned (.bool (whlB q))/\Hid (Below W.heap.size W W'):=by
 obtain ⟨V,hV⟩:∃ V,V = ((W.alloc (.cells #[.int .i64 q.w,.int .i64 q.x,.int .i64 q.y,.int .i64 q.z] 25)).alloc (.cells #[.bool false] 42)):=⟨_,rfl⟩
 have hb0:=n_after W (.cells #[.int .i64 q.w,.int .i64 q.x,.int .i64 q.y,.int .i64 q.z] 25)
 have hb1:=n_after (W.alloc (.cells #[.int .i64 q.w,.int .i64 q.x,.int .i64 q.y,.int .i64 q.z] 25)) (.cells #[.bool false] 42)
 have Cq:CW V (W.heap.size) [.int .i64 q.w,.int .i64 q.x,.int .i64 q.y,.int .i64 q.z]:=by
  have h9:=(CW.new W [.int .i64 q.w,.int .i64 q.x,.int .i64 q.y,.int .i64 q.z] 25).step hb1
  rw [hV];exact h9
 have Cw:CW V (W.heap.size + 1) [.bool false]:=by
  have h9:=CW.new (W.alloc (.cells #[.int .i64 q.w,.int .i64 q.x,.int .i64 q.y,.int .i64 q.z] 25)) [.bool false] 42
  simp only [World.size_alloc] at h9
  rw [hV];exact h9
 have hB:Below W.heap.size W V:=by rw [hV];exact (b_step hb0 hb1)
 clear hb0 hb1
 have HN:Hid _:=norm4_law (W.heap.size + 1) 0 false q.w q.x q.y q.z V (Cw 0 _ rfl).1 (Cw 0 _ rfl).2
 have HBT:Hid _:=fun w=>tbetween_any ((norm [q.w,q.x,q.y,q.z]).getD 0) 4294967288 4294967304 w
 unfold whlB
 have HB:Hid _:=hB
 have q0:=(Cq 0 _ rfl).1
 have q1:=(Cq 1 _ rfl).1
 have q2:=(Cq 2 _ rfl).1
 have q3:=(Cq 3 _ rfl).1
 clear Cq Cw hB
 rw [hV] at q0 q1 q2 q3 HN HB
 simp only [World.size_alloc] at HN
 clear hV
 go_enter Tryz.func92,Tryz.ntmps92
 go_wp2_with (fail)
 refine Calls.mono HN.out ?_
 rintro e W1 ⟨v,g,rfl,SS,A⟩
 obtain ⟨rfl,-⟩:=SS.out
 have hb:Below W.heap.size W W1:=A.out.below _ _ HB.out (by simp) (by simp;omega)
 clear A SS q0 q1 q2 q3 HN
 go_wp2_with (fail)
 refine Calls.mono (HBT.out _) ?_
 rintro e W2 ⟨rfl,rfl⟩
 go_wp2_with (fail)
 go_ret
 exact ⟨rfl,hb⟩
theorem tmass_any (b:Bd) (W:World) :
  Calls Tryz.prog 44 #[.agg #[.int .i64 b.m,.int .i64 b.i.x,.int .i64 b.i.y,.int .i64 b.i.z]] W fun e W'=>e = .returned (.bool (mssB b))/\Hid (Below W.heap.size W W'):=by
 have H0:Hid _:=tbetween_any b.m 16777216 1099511627776
 have H1:Hid _:=tbetween_any b.i.x 4096 562949953421312
 have H2:Hid _:=tbetween_any b.i.y 4096 562949953421312
 have H3:Hid _:=tbetween_any b.i.z 4096 562949953421312
 have HB:Hid _:=n_after W (.cells #[.int .i64 b.m,.int .i64 b.i.x,.int .i64 b.i.y,.int .i64 b.i.z] 29)
 unfold mssB
 generalize inR b.m 16777216 1099511627776 = c0 at *
 generalize inR b.i.x 4096 562949953421312 = c1 at *
 generalize inR b.i.y 4096 562949953421312 = c2 at *
 generalize inR b.i.z 4096 562949953421312 = c3 at *
 cases c0 with
 | false =>
  go_enter Tryz.func44,Tryz.ntmps44
  go_wp2_with (fail)
  refine Calls.mono (H0.out _) ?_
  rintro e w0 ⟨rfl,rfl⟩
  go_wp2_with (fail)
  go_ret
  exact ⟨by simp,HB⟩
 | true =>
  cases c1 with
  | false =>
   go_enter Tryz.func44,Tryz.ntmps44
   go_wp2_with (fail)
   refine Calls.mono (H0.out _) ?_
   rintro e w0 ⟨rfl,rfl⟩
   go_wp2_with (fail)
   refine Calls.mono (H1.out _) ?_
   rintro e w1 ⟨rfl,rfl⟩
   go_wp2_with (fail)
   go_ret
   exact ⟨by simp,HB⟩
  | true =>
   cases c2 with
   | false =>
    go_enter Tryz.func44,Tryz.ntmps44
    go_wp2_with (fail)
    refine Calls.mono (H0.out _) ?_
    rintro e w0 ⟨rfl,rfl⟩
    go_wp2_with (fail)
    refine Calls.mono (H1.out _) ?_
    rintro e w1 ⟨rfl,rfl⟩
    go_wp2_with (fail)
    refine Calls.mono (H2.out _) ?_
    rintro e w2 ⟨rfl,rfl⟩
    go_wp2_with (fail)
    go_ret
    exact ⟨by simp,HB⟩
   | true =>
    go_enter Tryz.func44,Tryz.ntmps44
    go_wp2_with (fail)
    refine Calls.mono (H0.out _) ?_
    rintro e w0 ⟨rfl,rfl⟩
    go_wp2_with (fail)
    refine Calls.mono (H1.out _) ?_
    rintro e w1 ⟨rfl,rfl⟩
    go_wp2_with (fail)
    refine Calls.mono (H2.out _) ?_
    rintro e w2 ⟨rfl,rfl⟩
    go_wp2_with (fail)
    refine Calls.mono (H3.out _) ?_
    rintro e w3 ⟨rfl,rfl⟩
    go_wp2_with (fail)
    go_ret
    exact ⟨by simp,HB⟩
theorem tformed_any (b:Bd) (R:List Value) (fr:Int) (hfr0:R[8]? = some (.int .i64 fr)) (W:World) :
  Calls Tryz.prog 42 #[.agg (b.L R).toArray] W fun e W'=>e = .returned (.bool (frmB b fr))/\Hid (Below W.heap.size W W'):=by
 have hfr:(b.L R)[26]? = some (.int .i64 fr):=hfr0
 have H1:Hid _:=fun w=>twithin_any b.s 4398046511104 w (by decide) (by decide)
 have H2:Hid _:=fun w=>twhole_any b.q w
 have H3:Hid _:=fun w=>tbetween_any fr 0 4294967296 w
 have H4:Hid _:=fun w=>twithin_any b.p 18014398509481984 w (by decide) (by decide)
 have H5:Hid _:=fun w=>twithin_any b.l 18014398509481984 w (by decide) (by decide)
 have HX:Hid (Below _ _ _):=n_after W (.cells (b.L R).toArray 35)
 have CX:Hid (CW _ _ _):=CW.new W (b.L R) 35
 unfold frmB
 generalize inV b.s 4398046511104 = c1 at *
 generalize whlB b.q = c2 at *
 generalize inR fr 0 4294967296 = c3 at *
 generalize inV b.p 18014398509481984 = c4 at *
 generalize inV b.l 18014398509481984 = c5 at *
 have k0:=(CX.out 0 _ rfl).1
 have k1:=(CX.out 1 _ rfl).1
 have k2:=(CX.out 2 _ rfl).1
 have k3:=(CX.out 3 _ rfl).1
 have k4:=(CX.out 4 _ rfl).1
 have k5:=(CX.out 5 _ rfl).1
 have k6:=(CX.out 6 _ rfl).1
 have k7:=(CX.out 7 _ rfl).1
 have k8:=(CX.out 8 _ rfl).1
 have k9:=(CX.out 9 _ rfl).1
 have k10:=(CX.out 10 _ rfl).1
 have k11:=(CX.out 11 _ rfl).1
 have k12:=(CX.out 12 _ rfl).1
 have k13:=(CX.out 13 _ rfl).1
 have k26:=(CX.out 26 _ hfr).1
 generalize hcs:b.L R = cs at *
 have HK:Hid _:=hcs
 clear hcs
 by_cases hk12:b.k = 1 \/ b.k = 2
 ·have e0:(decide (b.k = 1) || decide (b.k = 2)) = true:=by rcases hk12 with h | h <;> rw [h] <;> rfl
  rw [e0]
  rcases hk12 with h1 | h1
  all_goals
   rw [h1] at k0
   cases c1 with
   | false =>
    go_enter Tryz.func42,Tryz.ntmps42
    go_wp2_with (fail)
    refine Calls.mono (H1.out _) ?_
    rintro e V1 ⟨rfl,hb1⟩
    have HX:Hid (Below _ _ _):=b_step HX.out hb1.out
    have CX:Hid (CW _ _ _):=CX.out.step hb1.out
    clear hb1
    have k1:=(CX.out 1 _ (by rw [<- HK.out];rfl)).1
    have k2:=(CX.out 2 _ (by rw [<- HK.out];rfl)).1
    have k3:=(CX.out 3 _ (by rw [<- HK.out];rfl)).1
    have k4:=(CX.out 4 _ (by rw [<- HK.out];rfl)).1
    have k5:=(CX.out 5 _ (by rw [<- HK.out];rfl)).1
    have k6:=(CX.out 6 _ (by rw [<- HK.out];rfl)).1
    have k7:=(CX.out 7 _ (by rw [<- HK.out];rfl)).1
    have k8:=(CX.out 8 _ (by rw [<- HK.out];rfl)).1
    have k9:=(CX.out 9 _ (by rw [<- HK.out];rfl)).1
    have k10:=(CX.out 10 _ (by rw [<- HK.out];rfl)).1
    have k11:=(CX.out 11 _ (by rw [<- HK.out];rfl)).1
    have k12:=(CX.out 12 _ (by rw [<- HK.out];rfl)).1
    have k13:=(CX.out 13 _ (by rw [<- HK.out];rfl)).1
    have k26:=(CX.out 26 _ (by rw [<- HK.out];exact hfr0)).1
    go_wp2_with (fail)
    go_ret
    exact ⟨by simp,HX⟩
   | true =>
    cases c2 with
    | false =>
     go_enter Tryz.func42,Tryz.ntmps42
     go_wp2_with (fail)
     refine Calls.mono (H1.out _) ?_
     rintro e V1 ⟨rfl,hb1⟩
     have HX:Hid (Below _ _ _):=b_step HX.out hb1.out
     have CX:Hid (CW _ _ _):=CX.out.step hb1.out
     clear hb1
     have k1:=(CX.out 1 _ (by rw [<- HK.out];rfl)).1
     have k2:=(CX.out 2 _ (by rw [<- HK.out];rfl)).1
     have k3:=(CX.out 3 _ (by rw [<- HK.out];rfl)).1
     have k4:=(CX.out 4 _ (by rw [<- HK.out];rfl)).1
     have k5:=(CX.out 5 _ (by rw [<- HK.out];rfl)).1
     have k6:=(CX.out 6 _ (by rw [<- HK.out];rfl)).1
     have k7:=(CX.out 7 _ (by rw [<- HK.out];rfl)).1
     have k8:=(CX.out 8 _ (by rw [<- HK.out];rfl)).1
     have k9:=(CX.out 9 _ (by rw [<- HK.out];rfl)).1
     have k10:=(CX.out 10 _ (by rw [<- HK.out];rfl)).1
     have k11:=(CX.out 11 _ (by rw [<- HK.out];rfl)).1
     have k12:=(CX.out 12 _ (by rw [<- HK.out];rfl)).1
     have k13:=(CX.out 13 _ (by rw [<- HK.out];rfl)).1
     have k26:=(CX.out 26 _ (by rw [<- HK.out];exact hfr0)).1
     go_wp2_with (fail)
     refine Calls.mono (H2.out _) ?_
     rintro e V2 ⟨rfl,hb2⟩
     have HX:Hid (Below _ _ _):=b_step HX.out hb2.out
     have CX:Hid (CW _ _ _):=CX.out.step hb2.out
     clear hb2
     have k1:=(CX.out 1 _ (by rw [<- HK.out];rfl)).1
     have k2:=(CX.out 2 _ (by rw [<- HK.out];rfl)).1
     have k3:=(CX.out 3 _ (by rw [<- HK.out];rfl)).1
     have k4:=(CX.out 4 _ (by rw [<- HK.out];rfl)).1
     have k5:=(CX.out 5 _ (by rw [<- HK.out];rfl)).1
     have k6:=(CX.out 6 _ (by rw [<- HK.out];rfl)).1
     have k7:=(CX.out 7 _ (by rw [<- HK.out];rfl)).1
     have k8:=(CX.out 8 _ (by rw [<- HK.out];rfl)).1
     have k9:=(CX.out 9 _ (by rw [<- HK.out];rfl)).1
     have k10:=(CX.out 10 _ (by rw [<- HK.out];rfl)).1
     have k11:=(CX.out 11 _ (by rw [<- HK.out];rfl)).1
     have k12:=(CX.out 12 _ (by rw [<- HK.out];rfl)).1
     have k13:=(CX.out 13 _ (by rw [<- HK.out];rfl)).1
     have k26:=(CX.out 26 _ (by rw [<- HK.out];exact hfr0)).1
     go_wp2_with (fail)
     go_ret
     exact ⟨by simp,HX⟩
    | true =>
     cases c3 with
     | false =>
      go_enter Tryz.func42,Tryz.ntmps42
      go_wp2_with (fail)
      refine Calls.mono (H1.out _) ?_
      rintro e V1 ⟨rfl,hb1⟩
      have HX:Hid (Below _ _ _):=b_step HX.out hb1.out
      have CX:Hid (CW _ _ _):=CX.out.step hb1.out
      clear hb1
      have k1:=(CX.out 1 _ (by rw [<- HK.out];rfl)).1
      have k2:=(CX.out 2 _ (by rw [<- HK.out];rfl)).1
      have k3:=(CX.out 3 _ (by rw [<- HK.out];rfl)).1
      have k4:=(CX.out 4 _ (by rw [<- HK.out];rfl)).1
      have k5:=(CX.out 5 _ (by rw [<- HK.out];rfl)).1
      have k6:=(CX.out 6 _ (by rw [<- HK.out];rfl)).1
      have k7:=(CX.out 7 _ (by rw [<- HK.out];rfl)).1
      have k8:=(CX.out 8 _ (by rw [<- HK.out];rfl)).1
      have k9:=(CX.out 9 _ (by rw [<- HK.out];rfl)).1
      have k10:=(CX.out 10 _ (by rw [<- HK.out];rfl)).1
      have k11:=(CX.out 11 _ (by rw [<- HK.out];rfl)).1
      have k12:=(CX.out 12 _ (by rw [<- HK.out];rfl)).1
      have k13:=(CX.out 13 _ (by rw [<- HK.out];rfl)).1
      have k26:=(CX.out 26 _ (by rw [<- HK.out];exact hfr0)).1
      go_wp2_with (fail)
      refine Calls.mono (H2.out _) ?_
      rintro e V2 ⟨rfl,hb2⟩
      have HX:Hid (Below _ _ _):=b_step HX.out hb2.out
      have CX:Hid (CW _ _ _):=CX.out.step hb2.out
      clear hb2
      have k1:=(CX.out 1 _ (by rw [<- HK.out];rfl)).1
      have k2:=(CX.out 2 _ (by rw [<- HK.out];rfl)).1
      have k3:=(CX.out 3 _ (by rw [<- HK.out];rfl)).1
      have k4:=(CX.out 4 _ (by rw [<- HK.out];rfl)).1
      have k5:=(CX.out 5 _ (by rw [<- HK.out];rfl)).1
      have k6:=(CX.out 6 _ (by rw [<- HK.out];rfl)).1
      have k7:=(CX.out 7 _ (by rw [<- HK.out];rfl)).1
      have k8:=(CX.out 8 _ (by rw [<- HK.out];rfl)).1
      have k9:=(CX.out 9 _ (by rw [<- HK.out];rfl)).1
      have k10:=(CX.out 10 _ (by rw [<- HK.out];rfl)).1
      have k11:=(CX.out 11 _ (by rw [<- HK.out];rfl)).1
      have k12:=(CX.out 12 _ (by rw [<- HK.out];rfl)).1
      have k13:=(CX.out 13 _ (by rw [<- HK.out];rfl)).1
      have k26:=(CX.out 26 _ (by rw [<- HK.out];exact hfr0)).1
      go_wp2_with (fail)
      refine Calls.mono (H3.out _) ?_
      rintro e V3 ⟨rfl,rfl⟩
      go_wp2_with (fail)
      go_ret
      exact ⟨by simp,HX⟩
     | true =>
      cases c4 with
      | false =>
       go_enter Tryz.func42,Tryz.ntmps42
       go_wp2_with (fail)
       refine Calls.mono (H1.out _) ?_
       rintro e V1 ⟨rfl,hb1⟩
       have HX:Hid (Below _ _ _):=b_step HX.out hb1.out
       have CX:Hid (CW _ _ _):=CX.out.step hb1.out
       clear hb1
       have k1:=(CX.out 1 _ (by rw [<- HK.out];rfl)).1
       have k2:=(CX.out 2 _ (by rw [<- HK.out];rfl)).1
       have k3:=(CX.out 3 _ (by rw [<- HK.out];rfl)).1
       have k4:=(CX.out 4 _ (by rw [<- HK.out];rfl)).1
       have k5:=(CX.out 5 _ (by rw [<- HK.out];rfl)).1
       have k6:=(CX.out 6 _ (by rw [<- HK.out];rfl)).1
       have k7:=(CX.out 7 _ (by rw [<- HK.out];rfl)).1
       have k8:=(CX.out 8 _ (by rw [<- HK.out];rfl)).1
       have k9:=(CX.out 9 _ (by rw [<- HK.out];rfl)).1
       have k10:=(CX.out 10 _ (by rw [<- HK.out];rfl)).1
       have k11:=(CX.out 11 _ (by rw [<- HK.out];rfl)).1
       have k12:=(CX.out 12 _ (by rw [<- HK.out];rfl)).1
       have k13:=(CX.out 13 _ (by rw [<- HK.out];rfl)).1
       have k26:=(CX.out 26 _ (by rw [<- HK.out];exact hfr0)).1
       go_wp2_with (fail)
       refine Calls.mono (H2.out _) ?_
       rintro e V2 ⟨rfl,hb2⟩
       have HX:Hid (Below _ _ _):=b_step HX.out hb2.out
       have CX:Hid (CW _ _ _):=CX.out.step hb2.out
       clear hb2
       have k1:=(CX.out 1 _ (by rw [<- HK.out];rfl)).1
       have k2:=(CX.out 2 _ (by rw [<- HK.out];rfl)).1
       have k3:=(CX.out 3 _ (by rw [<- HK.out];rfl)).1
       have k4:=(CX.out 4 _ (by rw [<- HK.out];rfl)).1
       have k5:=(CX.out 5 _ (by rw [<- HK.out];rfl)).1
       have k6:=(CX.out 6 _ (by rw [<- HK.out];rfl)).1
       have k7:=(CX.out 7 _ (by rw [<- HK.out];rfl)).1
       have k8:=(CX.out 8 _ (by rw [<- HK.out];rfl)).1
       have k9:=(CX.out 9 _ (by rw [<- HK.out];rfl)).1
       have k10:=(CX.out 10 _ (by rw [<- HK.out];rfl)).1
       have k11:=(CX.out 11 _ (by rw [<- HK.out];rfl)).1
       have k12:=(CX.out 12 _ (by rw [<- HK.out];rfl)).1
       have k13:=(CX.out 13 _ (by rw [<- HK.out];rfl)).1
       have k26:=(CX.out 26 _ (by rw [<- HK.out];exact hfr0)).1
       go_wp2_with (fail)
       refine Calls.mono (H3.out _) ?_
       rintro e V3 ⟨rfl,rfl⟩
       go_wp2_with (fail)
       refine Calls.mono (H4.out _) ?_
       rintro e V4 ⟨rfl,hb4⟩
       have HX:Hid (Below _ _ _):=b_step HX.out hb4.out
       have CX:Hid (CW _ _ _):=CX.out.step hb4.out
       clear hb4
       have k1:=(CX.out 1 _ (by rw [<- HK.out];rfl)).1
       have k2:=(CX.out 2 _ (by rw [<- HK.out];rfl)).1
       have k3:=(CX.out 3 _ (by rw [<- HK.out];rfl)).1
       have k4:=(CX.out 4 _ (by rw [<- HK.out];rfl)).1
       have k5:=(CX.out 5 _ (by rw [<- HK.out];rfl)).1
       have k6:=(CX.out 6 _ (by rw [<- HK.out];rfl)).1
       have k7:=(CX.out 7 _ (by rw [<- HK.out];rfl)).1
       have k8:=(CX.out 8 _ (by rw [<- HK.out];rfl)).1
       have k9:=(CX.out 9 _ (by rw [<- HK.out];rfl)).1
       have k10:=(CX.out 10 _ (by rw [<- HK.out];rfl)).1
       have k11:=(CX.out 11 _ (by rw [<- HK.out];rfl)).1
       have k12:=(CX.out 12 _ (by rw [<- HK.out];rfl)).1
       have k13:=(CX.out 13 _ (by rw [<- HK.out];rfl)).1
       have k26:=(CX.out 26 _ (by rw [<- HK.out];exact hfr0)).1
       go_wp2_with (fail)
       go_ret
       exact ⟨by simp,HX⟩
      | true =>
       go_enter Tryz.func42,Tryz.ntmps42
       go_wp2_with (fail)
       refine Calls.mono (H1.out _) ?_
       rintro e V1 ⟨rfl,hb1⟩
       have HX:Hid (Below _ _ _):=b_step HX.out hb1.out
       have CX:Hid (CW _ _ _):=CX.out.step hb1.out
       clear hb1
       have k1:=(CX.out 1 _ (by rw [<- HK.out];rfl)).1
       have k2:=(CX.out 2 _ (by rw [<- HK.out];rfl)).1
       have k3:=(CX.out 3 _ (by rw [<- HK.out];rfl)).1
       have k4:=(CX.out 4 _ (by rw [<- HK.out];rfl)).1
       have k5:=(CX.out 5 _ (by rw [<- HK.out];rfl)).1
       have k6:=(CX.out 6 _ (by rw [<- HK.out];rfl)).1
       have k7:=(CX.out 7 _ (by rw [<- HK.out];rfl)).1
       have k8:=(CX.out 8 _ (by rw [<- HK.out];rfl)).1
       have k9:=(CX.out 9 _ (by rw [<- HK.out];rfl)).1
       have k10:=(CX.out 10 _ (by rw [<- HK.out];rfl)).1
       have k11:=(CX.out 11 _ (by rw [<- HK.out];rfl)).1
       have k12:=(CX.out 12 _ (by rw [<- HK.out];rfl)).1
       have k13:=(CX.out 13 _ (by rw [<- HK.out];rfl)).1
       have k26:=(CX.out 26 _ (by rw [<- HK.out];exact hfr0)).1
       go_wp2_with (fail)
       refine Calls.mono (H2.out _) ?_
       rintro e V2 ⟨rfl,hb2⟩
       have HX:Hid (Below _ _ _):=b_step HX.out hb2.out
       have CX:Hid (CW _ _ _):=CX.out.step hb2.out
       clear hb2
       have k1:=(CX.out 1 _ (by rw [<- HK.out];rfl)).1
       have k2:=(CX.out 2 _ (by rw [<- HK.out];rfl)).1
       have k3:=(CX.out 3 _ (by rw [<- HK.out];rfl)).1
       have k4:=(CX.out 4 _ (by rw [<- HK.out];rfl)).1
       have k5:=(CX.out 5 _ (by rw [<- HK.out];rfl)).1
       have k6:=(CX.out 6 _ (by rw [<- HK.out];rfl)).1
       have k7:=(CX.out 7 _ (by rw [<- HK.out];rfl)).1
       have k8:=(CX.out 8 _ (by rw [<- HK.out];rfl)).1
       have k9:=(CX.out 9 _ (by rw [<- HK.out];rfl)).1
       have k10:=(CX.out 10 _ (by rw [<- HK.out];rfl)).1
       have k11:=(CX.out 11 _ (by rw [<- HK.out];rfl)).1
       have k12:=(CX.out 12 _ (by rw [<- HK.out];rfl)).1
       have k13:=(CX.out 13 _ (by rw [<- HK.out];rfl)).1
       have k26:=(CX.out 26 _ (by rw [<- HK.out];exact hfr0)).1
       go_wp2_with (fail)
       refine Calls.mono (H3.out _) ?_
       rintro e V3 ⟨rfl,rfl⟩
       go_wp2_with (fail)
       refine Calls.mono (H4.out _) ?_
       rintro e V4 ⟨rfl,hb4⟩
       have HX:Hid (Below _ _ _):=b_step HX.out hb4.out
       have CX:Hid (CW _ _ _):=CX.out.step hb4.out
       clear hb4
       have k1:=(CX.out 1 _ (by rw [<- HK.out];rfl)).1
       have k2:=(CX.out 2 _ (by rw [<- HK.out];rfl)).1
       have k3:=(CX.out 3 _ (by rw [<- HK.out];rfl)).1
       have k4:=(CX.out 4 _ (by rw [<- HK.out];rfl)).1
       have k5:=(CX.out 5 _ (by rw [<- HK.out];rfl)).1
       have k6:=(CX.out 6 _ (by rw [<- HK.out];rfl)).1
       have k7:=(CX.out 7 _ (by rw [<- HK.out];rfl)).1
       have k8:=(CX.out 8 _ (by rw [<- HK.out];rfl)).1
       have k9:=(CX.out 9 _ (by rw [<- HK.out];rfl)).1
       have k10:=(CX.out 10 _ (by rw [<- HK.out];rfl)).1
       have k11:=(CX.out 11 _ (by rw [<- HK.out];rfl)).1
       have k12:=(CX.out 12 _ (by rw [<- HK.out];rfl)).1
       have k13:=(CX.out 13 _ (by rw [<- HK.out];rfl)).1
       have k26:=(CX.out 26 _ (by rw [<- HK.out];exact hfr0)).1
       go_wp2_with (fail)
       refine Calls.mono (H5.out _) ?_
       rintro e V5 ⟨rfl,hb5⟩
       have HX:Hid (Below _ _ _):=b_step HX.out hb5.out
       have CX:Hid (CW _ _ _):=CX.out.step hb5.out
       clear hb5
       have k1:=(CX.out 1 _ (by rw [<- HK.out];rfl)).1
       have k2:=(CX.out 2 _ (by rw [<- HK.out];rfl)).1
       have k3:=(CX.out 3 _ (by rw [<- HK.out];rfl)).1
       have k4:=(CX.out 4 _ (by rw [<- HK.out];rfl)).1
       have k5:=(CX.out 5 _ (by rw [<- HK.out];rfl)).1
       have k6:=(CX.out 6 _ (by rw [<- HK.out];rfl)).1
       have k7:=(CX.out 7 _ (by rw [<- HK.out];rfl)).1
       have k8:=(CX.out 8 _ (by rw [<- HK.out];rfl)).1
       have k9:=(CX.out 9 _ (by rw [<- HK.out];rfl)).1
       have k10:=(CX.out 10 _ (by rw [<- HK.out];rfl)).1
       have k11:=(CX.out 11 _ (by rw [<- HK.out];rfl)).1
       have k12:=(CX.out 12 _ (by rw [<- HK.out];rfl)).1
       have k13:=(CX.out 13 _ (by rw [<- HK.out];rfl)).1
       have k26:=(CX.out 26 _ (by rw [<- HK.out];exact hfr0)).1
       go_wp2_with (fail)
       go_ret
       exact ⟨by simp,HX⟩
 ·have h1:¬ b.k = 1:=fun h=>hk12 (Or.inl h)
  have h2:¬ b.k = 2:=fun h=>hk12 (Or.inr h)
  have e0:(decide (b.k = 1) || decide (b.k = 2)) = false:=by rw [decide_eq_false h1,decide_eq_false h2];rfl
  have e1:(b.k == 1) = false:=by simpa using h1
  have e2:(b.k == 2) = false:=by simpa using h2
  rw [e0]
  go_enter Tryz.func42,Tryz.ntmps42
  go_wp2_with (fail)
  go_ret
  exact ⟨by simp,HX⟩
theorem tgone_any (b:Bd) (R:List Value) (W:World) :
  Calls Tryz.prog 12 #[.agg (b.L R).toArray] W fun e W'=>e = .returned (.bool (!inV b.s 4398046511104))/\Hid (Below W.heap.size W W'):=by
 have H1:Hid _:=fun w=>twithin_any b.s 4398046511104 w (by decide) (by decide)
 have HX:Hid (Below _ _ _):=n_after W (.cells (b.L R).toArray 35)
 have CX:Hid (CW _ _ _):=CW.new W (b.L R) 35
 have k1:=(CX.out 1 _ rfl).1
 have k2:=(CX.out 2 _ rfl).1
 have k3:=(CX.out 3 _ rfl).1
 generalize inV b.s 4398046511104 = c1 at *
 generalize b.L R = cs at *
 go_enter Tryz.func12,Tryz.ntmps12
 go_wp2_with (fail)
 refine Calls.mono (H1.out _) ?_
 rintro e V1 ⟨rfl,hb⟩
 go_wp2_with (fail)
 go_ret
 exact ⟨rfl,b_step HX.out hb.out⟩
end
section
open Go.RowKit Go.Shelf Fx
structure Rs where
 sh:Sh
 g:Int
 ma:Int
 fr:Int
 fa:Bool
 qu:Int
 al:Bool
 ou:Bool
def Rs.l (r:Rs) (pv:Value):List Value:=[.int .i64 r.sh.kind,.int .i64 r.sh.radius,.int .i64 r.sh.half.x,.int .i64 r.sh.half.y,.int .i64 r.sh.half.z,pv,.int .i64 r.g,.int .i64 r.ma,.int .i64 r.fr,.bool r.fa,.int .i64 r.qu,.bool r.al,.bool r.ou]
theorem Rs.rest (r:Rs) {pv:Value} (h:pv.oneCell' = true):RestP (r.l pv) pv:=by
 refine ⟨⟨rfl,fun v hv=>?_⟩,rfl⟩
 simp only [Rs.l,List.mem_cons,List.not_mem_nil,or_false] at hv
 rcases hv with rfl | rfl | rfl | rfl | rfl | rfl | rfl | rfl | rfl | rfl | rfl | rfl | rfl
 all_goals first | rfl | exact h
theorem Rs.set (r:Rs) (pv u:Value):(r.l pv).set 5 u = r.l u:=rfl
theorem tcheck_any (b:Bd) (r:Rs) (pv:Value) (W:World) (hv:Lies W pv r.sh.pts) :
  Calls Tryz.prog 10 #[.agg (b.L (r.l pv)).toArray] W fun e W'=>e = .returned (.int .i64 (chkB b r.fr r.sh))/\Hid (Below W.heap.size W W'):=by
 have HX:Hid (Below _ _ _):=n_after W (.cells (b.L (r.l pv)).toArray 35)
 have CX:Hid (CW _ _ _):=CW.new W (b.L (r.l pv)) 35
 have hz:Hid ((Tryz.prog.info? 35).map (·.size) = some (b.L (r.l pv)).length):=body_size (r.rest (by obtain ⟨o,c,rfl,_⟩:=hv.form;rfl)).rest b
 have HRG:Hid _:=CX.out.range
 have HF:Hid _:=fun w=>tformed_any b (r.l pv) r.fr rfl w
 have HV:Hid (Lies _ _ _):=hv.below HX.out
 have HM:Hid _:=fun w=>tmass_any b w
 have HS:Hid _:=fun w h=>check_any r.sh pv w h
 unfold Sh.v at HS
 unfold chkB
 obtain ⟨o,c,hpv,_⟩:=hv.form
 generalize frmB b r.fr = ff at *
 generalize mssB b = mm at *
 generalize checkP r.sh = cc at *
 clear hv
 cases ff with
 | false =>
  generalize b.L (r.l pv) = cs at *
  go_enter Tryz.func10,Tryz.ntmps10
  go_wp2_with (refine wpList_load_mid rfl 35 _ rfl W.heap.size 0 rfl _ _ HRG.out Tryz.underlying35 rfl hz.out ?_)
  refine Calls.mono (HF.out _) ?_
  rintro e V1 ⟨rfl,hb⟩
  go_wp2_with (fail)
  go_ret
  exact ⟨rfl,b_step HX.out hb.out⟩
 | true =>
  obtain ⟨cs,hcs⟩:∃ cs,cs = b.L (r.l pv):=⟨_,rfl⟩
  rw [<- hcs] at HX CX hz HRG HF HV ⊢
  have HCS:Hid _:=hcs
  clear hcs
  go_enter Tryz.func10,Tryz.ntmps10
  go_wp2_with (refine wpList_load_mid rfl 35 _ rfl W.heap.size 0 rfl _ _ HRG.out Tryz.underlying35 rfl hz.out ?_)
  refine Calls.mono (HF.out _) ?_
  rintro e V1 ⟨rfl,hb⟩
  have HX:Hid (Below _ _ _):=b_step HX.out hb.out
  have CX:Hid (CW _ _ _):=CX.out.step hb.out
  have HV:Hid (Lies _ _ _):=HV.out.below hb.out
  rw [HCS.out] at CX
  have k18:=(CX.out 18 _ rfl).1
  have k19:=(CX.out 19 _ rfl).1
  have k20:=(CX.out 20 _ rfl).1
  have k21:=(CX.out 21 _ rfl).1
  have k22:=(CX.out 22 _ rfl).1
  have k23:=(CX.out 23 _ rfl).1
  rw [hpv] at k23
  have HS1:Hid _:=HS.out _ HV.out
  rw [hpv] at HS1
  clear hb HRG HF HS HV
  go_wp2_with (fail)
  refine Calls.mono HS1.out ?_
  rintro e V2 ⟨rfl,hb⟩
  have HX:Hid (Below _ _ _):=b_step HX.out hb
  have CX:Hid (CW _ _ _):=CX.out.step hb
  clear hb HS1 k18 k19 k20 k21 k22 k23
  by_cases hc:cc = 0
  ·subst hc
   have k0:=(CX.out 0 _ rfl).1
   have ke:=(CX.out 14 _ rfl).1
   have kf:=(CX.out 15 _ rfl).1
   have kg:=(CX.out 16 _ rfl).1
   have kh:=(CX.out 17 _ rfl).1
   by_cases hk:b.k = 2
   ·rw [hk] at k0
    go_wp2_with (fail)
    refine Calls.mono (HM.out _) ?_
    rintro e V3 ⟨rfl,hb⟩
    clear k0 ke kf kg kh
    cases mm with
    | false =>
     go_wp2_with (fail)
     go_ret
     exact ⟨by simp,b_step HX.out hb.out⟩
    | true =>
     go_wp2_with (fail)
     go_ret
     exact ⟨by simp,b_step HX.out hb.out⟩
   ·have hk2:(b.k == 2) = false:=by simpa using hk
    go_wp2_with (fail)
    go_ret
    exact ⟨by simp,HX⟩
  ·have hc2:(cc == 0) = false:=by simpa using hc
   go_wp2_with (fail)
   go_ret
   exact ⟨by simp,HX⟩
end
section
open Go.RowKit Go.Shelf Fx
def eb0:Bd:=⟨2,⟨0,0,0⟩,⟨4294967296,0,0,0⟩,⟨0,0,0⟩,⟨0,0,0⟩,8589934592,⟨4294967296,4294967296,4294967296⟩⟩
def er0:Rs:=⟨⟨1,9,⟨0,0,0⟩,[]⟩,0,0,0,false,0,false,false⟩
def eb1:Bd:=eb0.wp ⟨17179869184,0,0⟩
def ebz:Bd:=⟨0,⟨0,0,0⟩,⟨0,0,0,0⟩,⟨0,0,0⟩,⟨0,0,0⟩,0,⟨0,0,0⟩⟩
def erz:Rs:=⟨⟨0,0,⟨0,0,0⟩,[]⟩,0,0,0,false,0,false,false⟩
theorem norm_one:norm [4294967296,0,0,0] = some 4294967296:=by
 have e:((isq (prods [4294967296,0,0,0] [4294967296,0,0,0]).toNat:Nat):Int) = 4294967296:=(isq_of (X:=prods [4294967296,0,0,0] [4294967296,0,0,0]) (by decide) (by decide) (by decide)).symm
 unfold norm
 rw [if_neg (by decide),if_neg (by decide),e]
 decide
theorem ex_push:ifB eb0 (pshD eb0 ⟨0,0,0⟩ ⟨17179869184,0,0⟩) = eb1:=by kernel_rfl
theorem ex_pushB:if2B eb0.k (pshB eb0 ⟨0,0,0⟩ ⟨17179869184,0,0⟩) = false:=by kernel_rfl
theorem ex_speed:if2 eb1.k (spdV eb1) = ⟨8589934592,0,0⟩:=by kernel_rfl
theorem ex_speedB:if2B eb1.k (spdB eb1) = false:=by kernel_rfl
theorem ex_half:hlfV eb1 4294967296 = ⟨0,0,0⟩:=by kernel_rfl
theorem ex_go:(ifB eb1 (goD eb1 4294967296)).s = ⟨8589934592,0,0⟩:=by kernel_rfl
theorem ex_spin:spnB ⟨4294967296,0,0,0⟩ ⟨0,0,0⟩ = false:=by
 have t:timesBad 4294967296 0 0 0 4294967296 0 0 0 = false:=by kernel_rfl
 have t0:timesAt0 4294967296 0 0 0 4294967296 0 0 0 = 4294967296:=by kernel_rfl
 have t1:timesAt1 4294967296 0 0 0 4294967296 0 0 0 = 0:=by kernel_rfl
 have t2:timesAt2 4294967296 0 0 0 4294967296 0 0 0 = 0:=by kernel_rfl
 have t3:timesAt3 4294967296 0 0 0 4294967296 0 0 0 = 0:=by kernel_rfl
 unfold spnB spinBad
 dsimp only
 rw [t,t0,t1,t2,t3]
 simp only [cond_false]
 unfold wholeBad
 rw [norm_one]
 rfl
theorem ex_goB:if2B eb1.k (goB eb1 4294967296) = false:=by
 have h1:goB1 eb1 4294967296 = false:=by kernel_rfl
 have h2:addB eb1.s (wayV eb1 4294967296) = false:=by kernel_rfl
 have h3:eb1.q = ⟨4294967296,0,0,0⟩:=rfl
 unfold if2B goB
 rw [if_pos (show eb1.k = 2 from rfl),h1,h2,ex_half,h3,ex_spin]
 rfl
theorem ex_check:chkB eb0 er0.fr er0.sh = 0:=by
 have h:whlB eb0.q = true:=by
  unfold whlB
  have:norm [eb0.q.w,eb0.q.x,eb0.q.y,eb0.q.z] = some 4294967296:=norm_one
  rw [this];rfl
 have hf:frmB eb0 er0.fr = true:=by
  unfold frmB
  rw [h];rfl
 unfold chkB
 rw [hf];rfl
theorem ex_check0:chkB ebz erz.fr erz.sh = 1:=by
 have hf:frmB ebz erz.fr = false:=by unfold frmB;rfl
 unfold chkB
 rw [hf];rfl
end
section
open Go.RowKit Go.Shelf Fx
theorem lies_nil12 (w:World):Lies w (.slice none 0 0) []:=Lies.of_row (base:=0) (World.ownsRow_nil _ _ _ _)
theorem Lies.any_nil {W W':World} {v:Value} (h:Lies W v []):Lies W' v []:=by
 obtain ⟨o,c,e,h1,h2,_⟩:=h.form
 exact ⟨o,c,e,h1,h2,fun i hi=>by simp at hi⟩
theorem er0_rest:RestP (er0.l (.slice none 0 0)) (.slice none 0 0):=er0.rest rfl
theorem new_body (W:World) (us:List Value) (hu:us.length = 31) :
  CW ((W.alloc (.cells #[.int .i64 0,.int .i64 0,.int .i64 0,.int .i64 0,.int .i64 0,.int .i64 0,.int .i64 0,.int .i64 0,.int .i64 0,.int .i64 0,.int .i64 0,.int .i64 0,.int .i64 0,.int .i64 0,.int .i64 0,.int .i64 0,.int .i64 0,.int .i64 0,.int .i64 0,.int .i64 0,.int .i64 0,.int .i64 0,.int .i64 0,.slice none 0 0,.int .i64 0,.int .i64 0,.int .i64 0,.bool false,.int .i64 0,.bool false,.bool false] 35)).setCells W.heap.size 0 us) W.heap.size us/\Below W.heap.size W ((W.alloc (.cells #[.int .i64 0,.int .i64 0,.int .i64 0,.int .i64 0,.int .i64 0,.int .i64 0,.int .i64 0,.int .i64 0,.int .i64 0,.int .i64 0,.int .i64 0,.int .i64 0,.int .i64 0,.int .i64 0,.int .i64 0,.int .i64 0,.int .i64 0,.int .i64 0,.int .i64 0,.int .i64 0,.int .i64 0,.int .i64 0,.int .i64 0,.slice none 0 0,.int .i64 0,.int .i64 0,.int .i64 0,.bool false,.int .i64 0,.bool false,.bool false] 35)).setCells W.heap.size 0 us)/\((W.alloc (.cells #[.int .i64 0,.int .i64 0,.int .i64 0,.int .i64 0,.int .i64 0,.int .i64 0,.int .i64 0,.int .i64 0,.int .i64 0,.int .i64 0,.int .i64 0,.int .i64 0,.int .i64 0,.int .i64 0,.int .i64 0,.int .i64 0,.int .i64 0,.int .i64 0,.int .i64 0,.int .i64 0,.int .i64 0,.int .i64 0,.int .i64 0,.slice none 0 0,.int .i64 0,.int .i64 0,.int .i64 0,.bool false,.int .i64 0,.bool false,.bool false] 35)).setCells W.heap.size 0 us).heap.size = W.heap.size + 1/\World.there (W.alloc (.cells #[.int .i64 0,.int .i64 0,.int .i64 0,.int .i64 0,.int .i64 0,.int .i64 0,.int .i64 0,.int .i64 0,.int .i64 0,.int .i64 0,.int .i64 0,.int .i64 0,.int .i64 0,.int .i64 0,.int .i64 0,.int .i64 0,.int .i64 0,.int .i64 0,.int .i64 0,.int .i64 0,.int .i64 0,.int .i64 0,.int .i64 0,.slice none 0 0,.int .i64 0,.int .i64 0,.int .i64 0,.bool false,.int .i64 0,.bool false,.bool false] 35)) W.heap.size 0 us.toArray.size:=by
 have C:=CW.new W [.int .i64 0,.int .i64 0,.int .i64 0,.int .i64 0,.int .i64 0,.int .i64 0,.int .i64 0,.int .i64 0,.int .i64 0,.int .i64 0,.int .i64 0,.int .i64 0,.int .i64 0,.int .i64 0,.int .i64 0,.int .i64 0,.int .i64 0,.int .i64 0,.int .i64 0,.int .i64 0,.int .i64 0,.int .i64 0,.int .i64 0,.slice none 0 0,.int .i64 0,.int .i64 0,.int .i64 0,.bool false,.int .i64 0,.bool false,.bool false] 35
 refine ⟨C.sets (by rw [hu];rfl),(n_after W _).trans (below_sets (Nat.le_refl _) _ _ _),by rw [sets_size,World.size_alloc],?_⟩
 have e:us.toArray.size = 31:=by rw [List.size_toArray,hu]
 rw [e]
 exact C.there
theorem awake12_any (W:World):Calls Tryz.prog 9 #[] W fun e W'=>e = .returned (.bool true)/\Hid (Below W.heap.size W W'):=by
 have hr0:=er0_rest
 have hz0:Hid _:=body_size hr0.rest eb0
 have hy0:Hid ((Tryz.prog.info? 35).map (·.size) = some (#[.int .i64 2,.int .i64 0,.int .i64 0,.int .i64 0,.int .i64 4294967296,.int .i64 0,.int .i64 0,.int .i64 0,.int .i64 0,.int .i64 0,.int .i64 0,.int .i64 0,.int .i64 0,.int .i64 0,.int .i64 8589934592,.int .i64 4294967296,.int .i64 4294967296,.int .i64 4294967296,.int .i64 1,.int .i64 9,.int .i64 0,.int .i64 0,.int .i64 0,.slice none 0 0,.int .i64 0,.int .i64 0,.int .i64 0,.bool false,.int .i64 0,.bool false,.bool false]:Array Value).size):=body_size2 hr0.rest eb0
 have h10:Hid ((#[.int .i64 2,.int .i64 0,.int .i64 0,.int .i64 0,.int .i64 4294967296,.int .i64 0,.int .i64 0,.int .i64 0,.int .i64 0,.int .i64 0,.int .i64 0,.int .i64 0,.int .i64 0,.int .i64 0,.int .i64 8589934592,.int .i64 4294967296,.int .i64 4294967296,.int .i64 4294967296,.int .i64 1,.int .i64 9,.int .i64 0,.int .i64 0,.int .i64 0,.slice none 0 0,.int .i64 0,.int .i64 0,.int .i64 0,.bool false,.int .i64 0,.bool false,.bool false]:Array Value).all (·.oneCell') = true):=hr0.rest.each eb0
 obtain ⟨X0,hX0⟩:∃ X,X = (W.alloc (.cells #[.int .i64 0,.int .i64 0,.int .i64 0,.int .i64 0,.int .i64 0,.int .i64 0,.int .i64 0,.int .i64 0,.int .i64 0,.int .i64 0,.int .i64 0,.int .i64 0,.int .i64 0,.int .i64 0,.int .i64 0,.int .i64 0,.int .i64 0,.int .i64 0,.int .i64 0,.int .i64 0,.int .i64 0,.int .i64 0,.int .i64 0,.slice none 0 0,.int .i64 0,.int .i64 0,.int .i64 0,.bool false,.int .i64 0,.bool false,.bool false] 35)).setCells W.heap.size 0 ([.int .i64 2,.int .i64 0,.int .i64 0,.int .i64 0,.int .i64 4294967296,.int .i64 0,.int .i64 0,.int .i64 0,.int .i64 0,.int .i64 0,.int .i64 0,.int .i64 0,.int .i64 0,.int .i64 0,.int .i64 8589934592,.int .i64 4294967296,.int .i64 4294967296,.int .i64 4294967296,.int .i64 1,.int .i64 9,.int .i64 0,.int .i64 0,.int .i64 0,.slice none 0 0,.int .i64 0,.int .i64 0,.int .i64 0,.bool false,.int .i64 0,.bool false,.bool false]):=⟨_,rfl⟩
 obtain ⟨NX0,BX0,SX0,TX0⟩:=new_body W ([.int .i64 2,.int .i64 0,.int .i64 0,.int .i64 0,.int .i64 4294967296,.int .i64 0,.int .i64 0,.int .i64 0,.int .i64 0,.int .i64 0,.int .i64 0,.int .i64 0,.int .i64 0,.int .i64 0,.int .i64 8589934592,.int .i64 4294967296,.int .i64 4294967296,.int .i64 4294967296,.int .i64 1,.int .i64 9,.int .i64 0,.int .i64 0,.int .i64 0,.slice none 0 0,.int .i64 0,.int .i64 0,.int .i64 0,.bool false,.int .i64 0,.bool false,.bool false]) rfl
 rw [<- hX0] at NX0 BX0 SX0
 have HTX0:Hid (World.there _ _ _ _):=TX0
 clear TX0
 obtain ⟨V,hV⟩:∃ V,V = X0.alloc (.cells #[.bool false] 42):=⟨_,rfl⟩
 have hbV:Below X0.heap.size X0 V:=by rw [hV];exact n_after _ _
 have Cw:CW V X0.heap.size [.bool false]:=by rw [hV];exact CW.new _ [.bool false] 42
 have Cb:CW V W.heap.size (eb0.L (er0.l (.slice none 0 0))):=NX0.step hbV
 have HB:Hid (Below _ _ _):=b_step BX0 hbV
 clear NX0 BX0
 go_enter Tryz.func9,Tryz.ntmps9
 go_upto_region 2 with (refine wpList_store_mid rfl 35 _ _ rfl W.heap.size 0 _ rfl rfl HTX0.out hy0.out h10.out ?_)
 rw [<- hX0]
 obtain ⟨pb,hpb⟩:∃ p,p = W.heap.size:=⟨_,rfl⟩
 rw [<- hpb] at Cb SX0 ⊢
 have s1:X0.heap.size <= pb + 1:=by omega
 have s2:pb + 1 <= X0.heap.size:=by omega
 have hWb:W.heap.size <= pb:=by omega
 clear hX0 HTX0 hy0 h10 hpb SX0
 go_upto_region 3 with fail
 rw [<- hV]
 obtain ⟨pw,hpw⟩:∃ p,p = X0.heap.size:=⟨_,rfl⟩
 rw [<- hpw] at Cw ⊢
 have nb:pb ≠ pw:=by omega
 have hWw:W.heap.size <= pw:=by omega
 clear hV hpw hbV s1 s2
 have hc:=(Cw 0 _ rfl).1
 have hf:=(Cw 0 _ rfl).2
 have HRG:Hid (World.rangeAt V pb 0 (eb0.L (er0.l (.slice none 0 0)))):=Cb.range
 have HC1:Hid _:=push_any pw 0 false eb0 (er0.l (.slice none 0 0)) (.slice none 0 0) [] ⟨0,0,0⟩ ⟨17179869184,0,0⟩ hr0 V hc hf (lies_nil12 V) (by simp)
 rw [ex_push,ex_pushB] at HC1
 have Cb0:Hid (CW _ _ _):=Cb
 generalize hcs0:eb0.L (er0.l (.slice none 0 0)) = cs0 at *
 have HCS0:Hid _:=hcs0
 clear hcs0
 go_wp2_with (refine wpList_load_mid rfl 35 _ rfl pb 0 rfl _ _ HRG.out Tryz.underlying35 rfl hz0.out ?_)
 refine Calls.mono HC1.out ?_
 rintro e V1 ⟨u,rfl,A,HO⟩
 have hR1:=hr0.set (row_one HO.out)
 have hA:=A.out
 rw [Bool.or_false] at hA
 have hz1:Hid _:=body_size hR1.rest eb1
 have hy1:Hid _:=body_size2 hR1.rest eb1
 have h11:Hid _:=hR1.rest.each eb1
 obtain ⟨X1,hX1⟩:∃ X,X = (V1.alloc (.cells #[.int .i64 0,.int .i64 0,.int .i64 0,.int .i64 0,.int .i64 0,.int .i64 0,.int .i64 0,.int .i64 0,.int .i64 0,.int .i64 0,.int .i64 0,.int .i64 0,.int .i64 0,.int .i64 0,.int .i64 0,.int .i64 0,.int .i64 0,.int .i64 0,.int .i64 0,.int .i64 0,.int .i64 0,.int .i64 0,.int .i64 0,.slice none 0 0,.int .i64 0,.int .i64 0,.int .i64 0,.bool false,.int .i64 0,.bool false,.bool false] 35)).setCells V1.heap.size 0 (eb1.L ((er0.l (.slice none 0 0)).set 5 u)):=⟨_,rfl⟩
 obtain ⟨NX1,BX1,SX1,TX1⟩:=new_body V1 (eb1.L ((er0.l (.slice none 0 0)).set 5 u)) (hR1.rest.all _)
 rw [<- hX1] at NX1 BX1 SX1
 have HTX1:Hid (World.there _ _ _ _):=TX1
 clear TX1
 have Cb1:Hid (CW _ _ _):=(Cb0.out.after hA nb).step BX1
 have hc1:=c_after BX1 hA.cell
 have hf1:=f_after BX1 hA.cell hA.frozen
 have HB1:Hid (Below _ _ _):=b_step (hA.below _ _ HB.out hWw HB.out.size) BX1
 have hL1:Lies X1 u ([]:List Pt):=(Lies.of_row HO.out).below BX1
 obtain ⟨p1,hp1⟩:∃ p,p = V1.heap.size:=⟨_,rfl⟩
 have n1:p1 ≠ pw:=by have:=World.block_lt_of_cell? _ _ hA.cell;rw [hp1];exact Nat.ne_of_gt this
 have nb1:p1 ≠ pb:=by have h9:=(Cb0.out.after hA nb);have h8:=World.block_lt_of_cell? _ _ (h9 0 _ (by rw [<- HCS0.out];rfl)).1;rw [hp1];exact Nat.ne_of_gt h8
 clear HC1 A hA HO Cw Cb HB Cb0 HRG hc hf
 generalize hcs1:eb1.L ((er0.l (.slice none 0 0)).set 5 u) = cs1 at *
 have HCS1:Hid _:=hcs1
 clear hcs1
 go_upto_region 4 with (refine wpList_store_mid rfl 35 _ _ rfl V1.heap.size 0 _ rfl rfl HTX1.out hy1.out h11.out ?_)
 rw [<- hX1,<- hp1]
 rw [<- hp1] at NX1
 clear hX1 hp1 HTX1 SX1 BX1 hy1 h11
 have HRG1:Hid (World.rangeAt X1 p1 0 cs1):=NX1.range
 have HC2:Hid _:=speed_any pw 0 false eb1 ((er0.l (.slice none 0 0)).set 5 u) hR1.rest X1 hc1 hf1
 rw [ex_speed,ex_speedB,HCS1.out] at HC2
 go_wp2_with (refine wpList_load_mid rfl 35 _ rfl p1 0 rfl _ _ HRG1.out Tryz.underlying35 rfl hz1.out ?_)
 refine Calls.mono HC2.out ?_
 rintro e V2 ⟨rfl,A⟩
 have hA:=A.out
 rw [Bool.or_false] at hA
 go_upto_region 5 with fail
 obtain ⟨X2,hX2⟩:∃ X,X = V2.alloc (.cells #[.int .i64 8589934592,.int .i64 0,.int .i64 0] 23):=⟨_,rfl⟩
 rw [<- hX2]
 have hb2:Below V2.heap.size V2 X2:=by rw [hX2];exact n_after _ _
 have Cv:CW X2 V2.heap.size [.int .i64 8589934592,.int .i64 0,.int .i64 0]:=by rw [hX2];exact CW.new V2 [.int .i64 8589934592,.int .i64 0,.int .i64 0] 23
 obtain ⟨p2,hp2⟩:∃ p,p = V2.heap.size:=⟨_,rfl⟩
 rw [<- hp2] at Cv ⊢
 have n2:p2 ≠ pw:=by have:=World.block_lt_of_cell? _ _ hA.cell;rw [hp2];exact Nat.ne_of_gt this
 have Cb2:Hid (CW _ _ _):=(Cb1.out.after hA nb).step hb2
 have C12:=(NX1.after hA n1).step hb2
 have hc2:=c_after hb2 hA.cell
 have hf2:=f_after hb2 hA.cell hA.frozen
 have HB2:Hid (Below _ _ _):=b_step (hA.below _ _ HB1.out hWw HB1.out.size) hb2
 have hL2:Lies X2 u ([]:List Pt):=hL1.any_nil
 clear hX2 hp2 hb2 A hA HC2 HB1 hL1 NX1 Cb1 HRG1 hc1 hf1
 have HRG2:Hid (World.rangeAt X2 p1 0 cs1):=C12.range
 have HC3:Hid _:=go_any pw 0 false eb1 ((er0.l (.slice none 0 0)).set 5 u) u [] 4294967296 (by decide) hR1 X2 hc2 hf2 hL2 (by simp)
 rw [ex_goB,HCS1.out] at HC3
 go_wp2_with (refine wpList_load_mid rfl 35 _ rfl p1 0 rfl _ _ HRG2.out Tryz.underlying35 rfl hz1.out ?_)
 refine Calls.mono HC3.out ?_
 rintro e V3 ⟨u2,rfl,A,HO⟩
 have hR3:=hR1.set (row_one HO.out)
 have hA:=A.out
 rw [Bool.or_false] at hA
 have hy3:Hid _:=body_size2 hR3.rest (ifB eb1 (goD eb1 4294967296))
 have h13:Hid _:=hR3.rest.each (ifB eb1 (goD eb1 4294967296))
 obtain ⟨X3,hX3⟩:∃ X,X = (V3.alloc (.cells #[.int .i64 0,.int .i64 0,.int .i64 0,.int .i64 0,.int .i64 0,.int .i64 0,.int .i64 0,.int .i64 0,.int .i64 0,.int .i64 0,.int .i64 0,.int .i64 0,.int .i64 0,.int .i64 0,.int .i64 0,.int .i64 0,.int .i64 0,.int .i64 0,.int .i64 0,.int .i64 0,.int .i64 0,.int .i64 0,.int .i64 0,.slice none 0 0,.int .i64 0,.int .i64 0,.int .i64 0,.bool false,.int .i64 0,.bool false,.bool false] 35)).setCells V3.heap.size 0 ((ifB eb1 (goD eb1 4294967296)).L (((er0.l (.slice none 0 0)).set 5 u).set 5 u2)):=⟨_,rfl⟩
 obtain ⟨NX3,BX3,SX3,TX3⟩:=new_body V3 ((ifB eb1 (goD eb1 4294967296)).L (((er0.l (.slice none 0 0)).set 5 u).set 5 u2)) (hR3.rest.all _)
 rw [<- hX3] at NX3 BX3 SX3
 have HTX3:Hid (World.there _ _ _ _):=TX3
 clear TX3
 have Cb3:=(Cb2.out.after hA nb).step BX3
 have Cv3:=(Cv.after hA n2).step BX3
 have hc3:=c_after BX3 hA.cell
 have HB3:Hid (Below _ _ _):=b_step (hA.below _ _ HB2.out hWw HB2.out.size) BX3
 have d1:=(NX3 1 _ rfl).1
 have d2:=(NX3 2 _ rfl).1
 have d3:=(NX3 3 _ rfl).1
 have g1:(ifB eb1 (goD eb1 4294967296)).s.x = 8589934592:=by rw [ex_go]
 have g2:(ifB eb1 (goD eb1 4294967296)).s.y = 0:=by rw [ex_go]
 have g3:(ifB eb1 (goD eb1 4294967296)).s.z = 0:=by rw [ex_go]
 rw [g1] at d1
 rw [g2] at d2
 rw [g3] at d3
 obtain ⟨p3,hp3⟩:∃ p,p = V3.heap.size:=⟨_,rfl⟩
 clear g1 g2 g3 HC3 A hA HO Cv Cb2 HB2 HRG2 hc2 hf2 C12 hL2 NX3
 generalize (ifB eb1 (goD eb1 4294967296)).L (((er0.l (.slice none 0 0)).set 5 u).set 5 u2) = cs3 at *
 go_upto_region 6 with (refine wpList_store_mid rfl 35 _ _ rfl V3.heap.size 0 _ rfl rfl HTX3.out hy3.out h13.out ?_)
 rw [<- hX3,<- hp3]
 rw [<- hp3] at d1 d2 d3
 clear hX3 hp3 HTX3 SX3 BX3 hy3 h13
 have HRG3:Hid (World.rangeAt X3 pb 0 cs0):=Cb3.range
 have HK1:Hid _:=tcheck_any eb0 er0 (.slice none 0 0) X3 (lies_nil12 X3)
 rw [ex_check,HCS0.out] at HK1
 go_wp2_with (refine wpList_load_mid rfl 35 _ rfl pb 0 rfl _ _ HRG3.out Tryz.underlying35 rfl hz0.out ?_)
 refine Calls.mono HK1.out ?_
 rintro e V4 ⟨rfl,hb⟩
 have hb4:=hb.out
 have d1:=c_after hb4 d1
 have d2:=c_after hb4 d2
 have d3:=c_after hb4 d3
 have v0:=c_after hb4 (Cv3 0 _ rfl).1
 have v1:=c_after hb4 (Cv3 1 _ rfl).1
 have v2:=c_after hb4 (Cv3 2 _ rfl).1
 have hc4:=c_after hb4 hc3
 have HB4:Hid (Below _ _ _):=b_step HB3.out hb4
 have HK2:Hid (Calls Tryz.prog 10 #[.agg #[.int .i64 0,.int .i64 0,.int .i64 0,.int .i64 0,.int .i64 0,.int .i64 0,.int .i64 0,.int .i64 0,.int .i64 0,.int .i64 0,.int .i64 0,.int .i64 0,.int .i64 0,.int .i64 0,.int .i64 0,.int .i64 0,.int .i64 0,.int .i64 0,.int .i64 0,.int .i64 0,.int .i64 0,.int .i64 0,.int .i64 0,.slice none 0 0,.int .i64 0,.int .i64 0,.int .i64 0,.bool false,.int .i64 0,.bool false,.bool false]] V4 fun e W'=>e = .returned (.int .i64 1)/\Hid (Below V4.heap.size V4 W')):=by
  have h9:=tcheck_any ebz erz (.slice none 0 0) V4 (lies_nil12 V4)
  rw [ex_check0] at h9
  exact h9
 clear HK1 HRG3 hb hb4 Cv3 Cb3 hc3 HB3
 go_wp2_with (fail)
 refine Calls.mono HK2.out ?_
 rintro e V5 ⟨rfl,hb⟩
 have HB5:Hid (Below _ _ _):=b_step HB4.out hb.out
 clear HK2 hb d1 d2 d3 v0 v1 v2 hc4
 go_wp2_with (fail)
 go_ret
 exact ⟨rfl,HB5⟩
end
section
open Go.RowKit Go.Shelf
structure Three (w0 W:World) (vp va ve:Value) (P A E:List Pt):Prop where
 rp:W.ownsRow w0.heap.size 30 3 vp P.length (fl3 P)
 ra:W.ownsRow w0.heap.size 30 3 va A.length (fl3 A)
 re:W.ownsRow w0.heap.size 30 3 ve E.length (fl3 E)
 pa:∀ k,vp.ownBlock = some k->va.ownBlock ≠ some k
 pe:∀ k,vp.ownBlock = some k->ve.ownBlock ≠ some k
 ae:∀ k,va.ownBlock = some k->ve.ownBlock ≠ some k
 below:Below w0.heap.size w0 W
def set4 (W:World) (b:Nat) (v0 v1 v2 v3:Value):World:=(((W.setCell ⟨b,0,none⟩ v0).setCell ⟨b,1,none⟩ v1).setCell ⟨b,2,none⟩ v2).setCell ⟨b,3,none⟩ v3
def Cells (W:World) (b:Nat) (vs:List Value):Prop:=∀ i v,vs[i]? = some v->W.cell? ⟨b,i,none⟩ = some v/\W.frozen? ⟨b,i,none⟩ = false
theorem Cells.step {A B:World} {b:Nat} {vs:List Value} (h:Cells A b vs) (hb:Below A.heap.size A B):Cells B b vs:=fun i v e=>⟨c_after hb (h i v e).1,f_after hb (h i v e).1 (h i v e).2⟩
theorem Cells.new (w:World) (vs:List Value) (t:TypeId):Cells (w.alloc (.cells vs.toArray t)) w.heap.size vs:=fun i v e=>⟨by simp [e],by simp [go_sem]⟩
end
section
open Go.RowKit Go.Shelf Fx
theorem points_any (v u:Value) (L M:List Pt) (w:World) (hv:Lies w v L) (hu:Lies w u M) :
  Calls Tryz.prog 81 #[v,u] w fun e W=>e = .returned (.bool (decide (L = M)))/\Below w.heap.size w W:=by
 obtain ⟨o,c,rfl,hlc,hcm,hcell⟩:=hv.form
 obtain ⟨o',c',rfl,hlc',hcm',hcell'⟩:=hu.form
 have HC:Hid _:=hcell
 have HC':Hid _:=hcell'
 clear hv hu hcell hcell'
 by_cases hl:L.length = M.length
 ·rw [<- hl] at hlc' ⊢
  have HLL:Hid (L.length = M.length):=hl
  clear hl
  obtain ⟨D,hD⟩:∃ D,decide (L = M) = D:=⟨_,rfl⟩
  rw [hD]
  have HD:Hid _:=hD
  clear hD
  go_enter Tryz.func81,Tryz.ntmps81
  go_wp2_with (fail)
  go_loopg [5] L.length (fun gm i wr=>∃ k:Nat,i = .int .i64 (k:Int)/\k <= L.length/\gm = L.length - k/\Hid (∀ j,j < k->pt L j = pt M j)/\Hid (Below w.heap.size w wr))
  case atStart=>exact ⟨0,rfl,Nat.zero_le _,rfl,fun j hj=>absurd hj (by omega),Below.refl _ w⟩
  case round =>
   obtain ⟨k,rfl,hk,hgm,HN,HB⟩:=hrel
   have HG:Hid _:=hgm
   clear hgm
   by_cases hlt:k < L.length
   ·obtain ⟨g,off,rfl,x0,x1,x2⟩:=HC.out k hlt
    obtain ⟨g',off',rfl,y0,y1,y2⟩:=HC'.out k (by rw [<- HLL.out];exact hlt)
    have x0:=c_after HB.out x0
    have x1:=c_after HB.out x1
    have x2:=c_after HB.out x2
    have y0:=c_after HB.out y0
    have y1:=c_after HB.out y1
    have y2:=c_after HB.out y2
    have HNE:Hid (pt L k ≠ pt M k->D = false):=fun hne=>by rw [<- HD.out];exact decide_eq_false (fun e=>hne (by rw [e]))
    have HEQ:Hid (pt L k = pt M k->∀ j,j < k + 1->pt L j = pt M j):=fun e j hj=>by
     by_cases ej:j = k
     ·subst ej;exact e
     ·exact HN.out j (by omega)
    rw [pt_eq] at HEQ
    rw [Ne,pt_eq] at HNE
    generalize (pt L k).x = lx at *
    generalize (pt L k).y = ly at *
    generalize (pt L k).z = lz at *
    generalize (pt M k).x = mx at *
    generalize (pt M k).y = my at *
    generalize (pt M k).z = mz at *
    by_cases ex:lx = mx
    ·subst ex
     by_cases ey:ly = my
     ·subst ey
      by_cases ez:lz = mz
      ·subst ez
       have HE2:Hid (∀ j,j < k + 1->pt L j = pt M j):=HEQ.out ⟨rfl,rfl,rfl⟩
       clear HNE HEQ
       go_wp2_with (fail)
       go_region
       go_wp2_with (fail)
       go_roundg (L.length - (k + 1))
       case measure=>have:=HG.out;omega
       case rel=>exact ⟨k + 1,by go_num,by omega,rfl,HE2,HB.out.drew⟩
      ·have e:D = false:=HNE.out (fun h=>ez h.2.2)
       subst e
       have e1:(lz == mz) = false:=beq_eq_false_iff_ne.2 ez
       clear HNE HEQ
       go_wp2_with (fail)
       go_region
       go_wp2_with (fail)
       go_ret
       exact ⟨rfl,HB.out.drew⟩
     ·have e:D = false:=HNE.out (fun h=>ey h.2.1)
      subst e
      have e1:(ly == my) = false:=beq_eq_false_iff_ne.2 ey
      clear HNE HEQ
      go_wp2_with (fail)
      go_region
      go_wp2_with (fail)
      go_ret
      exact ⟨rfl,HB.out.drew⟩
    ·have e:D = false:=HNE.out (fun h=>ex h.1)
     subst e
     have e1:(lx == mx) = false:=beq_eq_false_iff_ne.2 ex
     clear HNE HEQ
     go_wp2_with (fail)
     go_region
     go_wp2_with (fail)
     go_ret
     exact ⟨rfl,HB.out.drew⟩
   ·have e:D = true:=by rw [<- HD.out];exact decide_eq_true (list_same HLL.out (fun i hi=>HN.out i (by omega)))
    subst e
    go_wp2_with (fail)
    go_ret
    exact ⟨rfl,HB.out⟩
 ·have hd:decide (L = M) = false:=decide_eq_false (fun e=>hl (by rw [e]))
  rw [hd]
  have hl':¬ (L.length:Int) = (M.length:Int):=by omega
  clear hd
  go_enter Tryz.func81,Tryz.ntmps81
  go_wp2_with (fail)
  go_ret
  exact ⟨rfl,Below.refl _ w⟩
def square:Sh:=⟨4,0,Pt.O,[⟨0,0,0⟩,⟨1,0,0⟩,⟨0,1,0⟩,⟨1,1,0⟩]⟩
end
section
open Go.RowKit Go.Shelf Fx
theorem same12_yes (b:Bd) (r:Rs) (pv pu:Value) (W:World) (hv:Lies W pv r.sh.pts) (hu:Lies W pu r.sh.pts) :
  Calls Tryz.prog 30 #[.agg (b.L (r.l pv)).toArray,.agg (b.L (r.l pu)).toArray] W fun e W'=>e = .returned (.bool true)/\Hid (Below W.heap.size W W'):=by
 obtain ⟨V,hV⟩:∃ V,V = ((W.alloc (.cells (b.L (r.l pv)).toArray 35)).alloc (.cells (b.L (r.l pu)).toArray 35)):=⟨_,rfl⟩
 have hb0:=n_after W (.cells (b.L (r.l pv)).toArray 35)
 have hb1:=n_after (W.alloc (.cells (b.L (r.l pv)).toArray 35)) (.cells (b.L (r.l pu)).toArray 35)
 have Ca:CW V (W.heap.size) (b.L (r.l pv)):=by
  have h9:=(CW.new W (b.L (r.l pv)) 35).step hb1
  rw [hV];exact h9
 have Cc:CW V (W.heap.size + 1) (b.L (r.l pu)):=by
  have h9:=CW.new (W.alloc (.cells (b.L (r.l pv)).toArray 35)) (b.L (r.l pu)) 35
  simp only [World.size_alloc] at h9
  rw [hV];exact h9
 have hB:Below W.heap.size W V:=by rw [hV];exact (b_step hb0 hb1)
 clear hb0 hb1
 have HB:Hid (Below _ _ _):=hB
 have HC:Hid _:=points_any pv pu r.sh.pts r.sh.pts V (hv.below hB) (hu.below hB)
 obtain ⟨o1,k1,e1,_⟩:=hv.form
 obtain ⟨o2,k2,e2,_⟩:=hu.form
 have E:Hid _:=And.intro e1 e2
 clear hv hu hB e1 e2
 go_enter Tryz.func30,Tryz.ntmps30
 go_upto_region 1 with fail
 rw [<- hV]
 clear hV
 obtain ⟨pc,hpc⟩:∃ p,p = W.heap.size + 1:=⟨_,rfl⟩
 obtain ⟨pa,hpa⟩:∃ p,p = W.heap.size:=⟨_,rfl⟩
 rw [<- hpc] at Cc
 rw [<- hpa] at Ca
 rw [<- hpc,<- hpa]
 clear hpa hpc
 have a0:=(Ca 0 _ rfl).1
 have c0:=(Cc 0 _ rfl).1
 have a1:=(Ca 1 _ rfl).1
 have c1:=(Cc 1 _ rfl).1
 have a2:=(Ca 2 _ rfl).1
 have c2:=(Cc 2 _ rfl).1
 have a3:=(Ca 3 _ rfl).1
 have c3:=(Cc 3 _ rfl).1
 have a4:=(Ca 4 _ rfl).1
 have c4:=(Cc 4 _ rfl).1
 have a5:=(Ca 5 _ rfl).1
 have c5:=(Cc 5 _ rfl).1
 have a6:=(Ca 6 _ rfl).1
 have c6:=(Cc 6 _ rfl).1
 have a7:=(Ca 7 _ rfl).1
 have c7:=(Cc 7 _ rfl).1
 have a8:=(Ca 8 _ rfl).1
 have c8:=(Cc 8 _ rfl).1
 have a9:=(Ca 9 _ rfl).1
 have c9:=(Cc 9 _ rfl).1
 have a10:=(Ca 10 _ rfl).1
 have c10:=(Cc 10 _ rfl).1
 have a11:=(Ca 11 _ rfl).1
 have c11:=(Cc 11 _ rfl).1
 have a12:=(Ca 12 _ rfl).1
 have c12:=(Cc 12 _ rfl).1
 have a13:=(Ca 13 _ rfl).1
 have c13:=(Cc 13 _ rfl).1
 have a14:=(Ca 14 _ rfl).1
 have c14:=(Cc 14 _ rfl).1
 have a15:=(Ca 15 _ rfl).1
 have c15:=(Cc 15 _ rfl).1
 have a16:=(Ca 16 _ rfl).1
 have c16:=(Cc 16 _ rfl).1
 have a17:=(Ca 17 _ rfl).1
 have c17:=(Cc 17 _ rfl).1
 have a18:=(Ca 18 _ rfl).1
 have c18:=(Cc 18 _ rfl).1
 have a19:=(Ca 19 _ rfl).1
 have c19:=(Cc 19 _ rfl).1
 have a20:=(Ca 20 _ rfl).1
 have c20:=(Cc 20 _ rfl).1
 have a21:=(Ca 21 _ rfl).1
 have c21:=(Cc 21 _ rfl).1
 have a22:=(Ca 22 _ rfl).1
 have c22:=(Cc 22 _ rfl).1
 have a23:=(Ca 23 _ rfl).1
 have c23:=(Cc 23 _ rfl).1
 have a24:=(Ca 24 _ rfl).1
 have c24:=(Cc 24 _ rfl).1
 have a25:=(Ca 25 _ rfl).1
 have c25:=(Cc 25 _ rfl).1
 have a26:=(Ca 26 _ rfl).1
 have c26:=(Cc 26 _ rfl).1
 have a27:=(Ca 27 _ rfl).1
 have c27:=(Cc 27 _ rfl).1
 have a28:=(Ca 28 _ rfl).1
 have c28:=(Cc 28 _ rfl).1
 have a29:=(Ca 29 _ rfl).1
 have c29:=(Cc 29 _ rfl).1
 have a30:=(Ca 30 _ rfl).1
 have c30:=(Cc 30 _ rfl).1
 rw [E.out.1] at a23 HC
 rw [E.out.2] at c23 HC
 clear Ca Cc E
 obtain ⟨k,⟨sx,sy,sz⟩,⟨qw,qx,qy,qz⟩,⟨px,py,pz⟩,⟨lx,ly,lz⟩,m,⟨ix,iy,iz⟩⟩:=b
 obtain ⟨⟨sk,sr,⟨hx,hy,hz⟩,Ls⟩,g,ma,fr,fa,qu,al,ou⟩:=r
 dsimp only at *
 generalize Bd.L _ _ = csa at *
 go_wp2_with (fail)
 trace_state
 refine Calls.mono HC.out ?_
 rintro e V1 ⟨rfl,hb⟩
 go_wp2_with (fail)
 go_ret
 exact ⟨by simp,b_step HB.out hb⟩
end
end Go.Proofs.YtpjaacpcdomfiaaGreat
