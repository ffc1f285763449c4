/- The reference's numbers by digits (tumblerref01): sums, and which of two is less. -/
import Derived.Test.YtohbjabihdgjhaaGreatSSFree12
set_option maxHeartbeats 1000000
set_option linter.unusedVariables false
namespace Go.Proofs.YtohbjabihdgjhaaGreat
section
open Go.RowKit Ref
theorem lies_nine {W:World} {b:Nat} {s₀ s:Bool} {d₀ d:Nat->Int} (h:RLies W b s₀ d₀):RLies (((((((((W.setCell ⟨b,0,none⟩ (.bool s)).setCell ⟨b,1,none⟩ (.int .i64 (d 0))).setCell ⟨b,2,none⟩ (.int .i64 (d 1))).setCell ⟨b,3,none⟩ (.int .i64 (d 2))).setCell ⟨b,4,none⟩ (.int .i64 (d 3))).setCell ⟨b,5,none⟩ (.int .i64 (d 4))).setCell ⟨b,6,none⟩ (.int .i64 (d 5))).setCell ⟨b,7,none⟩ (.int .i64 (d 6))).setCell ⟨b,8,none⟩ (.int .i64 (d 7))) b s d:=by
 obtain ⟨c0,c1,c2,c3,c4,c5,c6,c7,c8⟩:=h.cells
 refine ⟨by simp [go_sem,c0],fun k hk=>?_,fun k hk=>by rw [<- h.free k hk];simp [go_sem]⟩
 match k,hk with
 | 0,_=>simp [go_sem,c1]
 | 1,_=>simp [go_sem,c2]
 | 2,_=>simp [go_sem,c3]
 | 3,_=>simp [go_sem,c4]
 | 4,_=>simp [go_sem,c5]
 | 5,_=>simp [go_sem,c6]
 | 6,_=>simp [go_sem,c7]
 | 7,_=>simp [go_sem,c8]
theorem RLies.nine {W:World} {b e:Nat} {s t:Bool} {d x:Nat->Int} (h:RLies W e t x) (hne:e ≠ b):RLies (((((((((W.setCell ⟨b,0,none⟩ (.bool s)).setCell ⟨b,1,none⟩ (.int .i64 (d 0))).setCell ⟨b,2,none⟩ (.int .i64 (d 1))).setCell ⟨b,3,none⟩ (.int .i64 (d 2))).setCell ⟨b,4,none⟩ (.int .i64 (d 3))).setCell ⟨b,5,none⟩ (.int .i64 (d 4))).setCell ⟨b,6,none⟩ (.int .i64 (d 5))).setCell ⟨b,7,none⟩ (.int .i64 (d 6))).setCell ⟨b,8,none⟩ (.int .i64 (d 7))) e t x:=
 ((((((((h.other hne _).other hne _).other hne _).other hne _).other hne _).other hne _).other hne _).other hne _).other hne _
theorem RLies.otherAt {W:World} {b:Nat} {s:Bool} {d:Nat->Int} (h:RLies W b s d) {e off:Nat} (hne:b ≠ e) (v:Value):RLies (W.setCell ⟨e,off,none⟩ v) b s d:=h.other hne v
theorem setAt {H:Nat} {w W:World} (h:Below H w W) {e off:Nat} (he:H <= e) (v:Value):Below H w (W.setCell ⟨e,off,none⟩ v):=h.setCell he v
theorem sum_next {a b d:Nat->Int} {k:Nat} {c n:Int} (ha:Digs a) (hb:Digs b) (hd:Digs d) (hk:k < 8) (hc:0 <= c/\c <= 1) (h:val d k + c * 16777216 ^ k = val a k + val b k) (hn:n = a k + b k + c) :
  Digs (put d k (n % 16777216))/\0 <= n / 16777216/\n / 16777216 <= 1/\val (put d k (n % 16777216)) (k + 1) + n / 16777216 * 16777216 ^ (k + 1) = val a (k + 1) + val b (k + 1):=by
 have h1:=ha k hk
 have h2:=hb k hk
 refine ⟨hd.put k ⟨Int.emod_nonneg _ (by omega),Int.emod_lt_of_pos _ (by omega)⟩,by omega,by omega,?_⟩
 simp only [val]
 rw [val_put_ge _ _ _ _ (Nat.le_refl _),put_same,Int.pow_succ,hn]
 exact add_step h
theorem sum_done {a b d:Nat->Int} {s:Bool} {c:Int} (hd:Digs d) (hc:0 <= c) (h:val d 8 + c * 16777216 ^ 8 = val a 8 + val b 8) (hfit:(sv s a + sv s b).natAbs < 6277101735386680763835789423207666416102355444464034512896):sv s d = sv s a + sv s b:=by
 have h0:=hd.nonneg
 have h1:(16777216:Int) ^ 8 = 6277101735386680763835789423207666416102355444464034512896:=by decide
 rw [h1] at h
 have e:(sv s a + sv s b).natAbs = (val a 8 + val b 8).natAbs:=by unfold sv;cases s <;> simp;omega
 rw [e] at hfit
 have:c = 0:=by omega
 subst this
 unfold sv;cases s <;> simp <;> omega
theorem dif_next {a b d:Nat->Int} {k:Nat} {c n c':Int} (ha:Digs a) (hb:Digs b) (hd:Digs d) (hk:k < 8) (hc:0 <= c/\c <= 1) (h:val d k - c * 16777216 ^ k = val a k - val b k)
  (hn:(a k - b k - c < 0/\n = a k - b k - c + 16777216/\c' = 1) \/ (0 <= a k - b k - c/\n = a k - b k - c/\c' = 0)) :
  Digs (put d k n)/\0 <= c'/\c' <= 1/\val (put d k n) (k + 1) - c' * 16777216 ^ (k + 1) = val a (k + 1) - val b (k + 1):=by
 have h1:=ha k hk
 have h2:=hb k hk
 refine ⟨hd.put k (by omega),by omega,by omega,?_⟩
 simp only [val]
 rw [val_put_ge _ _ _ _ (Nat.le_refl _),put_same,Int.pow_succ]
 generalize (16777216:Int) ^ k = X at *
 rcases hn with ⟨_,rfl,rfl⟩ | ⟨_,rfl,rfl⟩ <;> grind
theorem dif_done {a b d:Nat->Int} {c:Int} (hd:Digs d) (hc:0 <= c) (h:val d 8 - c * 16777216 ^ 8 = val a 8 - val b 8) (hle:val b 8 <= val a 8):val d 8 = val a 8 - val b 8:=by
 have h0:=hd.lt
 have h1:(16777216:Int) ^ 8 = 6277101735386680763835789423207666416102355444464034512896:=by decide
 rw [h1] at h
 have:c = 0:=by omega
 subst this
 omega
theorem plus_same (s:Bool) (a b:Nat->Int) (w:World) (ha:Digs a) (hb:Digs b) (hfit:(sv s a + sv s b).natAbs < 6277101735386680763835789423207666416102355444464034512896) :
  Calls Tryz.prog 122 #[wv s a,wv s b] w fun e w'=>∃ u d,e = .returned (wv u d)/\Hid (Digs d/\sv u d = sv s a + sv s b)/\Hid (Below w.heap.size w w'):=by
 have HA:Hid _:=ha
 have HC:Hid _:=hb
 have HF:Hid _:=hfit
 clear ha hb hfit
 go_enter Tryz.func122,Tryz.ntmps122
 go_wp2
 go_loopw [5,7] (fun cc i wr=>∃ (k:Nat) (d:Nat->Int) (c:Int),k <= 8/\i = .int .i64 k/\cc = .int .i64 c/\0 <= c/\c <= 1/\Hid (Digs d/\val d k + c * 16777216 ^ k = val a k + val b k)/\Hid (RLies wr w.heap.size s a)/\Hid (RLies wr (w.heap.size + 1) s b)/\Hid (RLies wr (w.heap.size + 1 + 1) false (fun _=>0))/\Hid (RLies wr (w.heap.size + 1 + 1 + 1) s d)/\Hid (Below w.heap.size w wr)) (fun _ i _=>8 - (intOf i).toNat)
 case atStart =>
  exact ⟨0,a,0,Nat.zero_le _,rfl,rfl,by omega,by omega,⟨HA.out,by simp [val]⟩,(RLies.alloc (RLies.alloc (RLies.alloc (by show RLies _ _ _ _;have:=lies_new w s a 133;simpa only [World.size_alloc] using this) _) _) _),(RLies.alloc (RLies.alloc (by show RLies _ _ _ _;have:=lies_new (w.alloc (.cells #[.bool s,.int .i64 (a 0),.int .i64 (a 1),.int .i64 (a 2),.int .i64 (a 3),.int .i64 (a 4),.int .i64 (a 5),.int .i64 (a 6),.int .i64 (a 7)] 133)) s b 133;simpa only [World.size_alloc] using this) _) _),(RLies.alloc (by show RLies _ _ _ _;have:=lies_new ((w.alloc (.cells #[.bool s,.int .i64 (a 0),.int .i64 (a 1),.int .i64 (a 2),.int .i64 (a 3),.int .i64 (a 4),.int .i64 (a 5),.int .i64 (a 6),.int .i64 (a 7)] 133)).alloc (.cells #[.bool s,.int .i64 (b 0),.int .i64 (b 1),.int .i64 (b 2),.int .i64 (b 3),.int .i64 (b 4),.int .i64 (b 5),.int .i64 (b 6),.int .i64 (b 7)] 133)) false (fun _=>0) 133;simpa only [World.size_alloc] using this) _),(by show RLies _ _ _ _;have:=lies_new (((w.alloc (.cells #[.bool s,.int .i64 (a 0),.int .i64 (a 1),.int .i64 (a 2),.int .i64 (a 3),.int .i64 (a 4),.int .i64 (a 5),.int .i64 (a 6),.int .i64 (a 7)] 133)).alloc (.cells #[.bool s,.int .i64 (b 0),.int .i64 (b 1),.int .i64 (b 2),.int .i64 (b 3),.int .i64 (b 4),.int .i64 (b 5),.int .i64 (b 6),.int .i64 (b 7)] 133)).alloc (.cells #[.bool false,.int .i64 0,.int .i64 0,.int .i64 0,.int .i64 0,.int .i64 0,.int .i64 0,.int .i64 0,.int .i64 0] 133)) s a 133;simpa only [World.size_alloc] using this),((((new_after w _).alloc (by simp) _).alloc (by simp;omega) _).alloc (by simp;omega) _)⟩
 case round =>
  obtain ⟨k,d,c,hk,rfl,rfl,hc0,hc1,HD,HL,HR,HZ,HO,HB⟩:=hrel
  by_cases hlt:k < 8
  ·have e1:=HL.out.dig k hlt
   have e2:=HR.out.dig k hlt
   have e3:=HO.out.dig k hlt
   have e4:=HO.out.free (1 + k) (by omega)
   have i0:(0:Int) <= (k:Int):=by omega
   have i1:(k:Int) < 8:=by omega
   have b1:=HA.out k hlt
   have b2:=HC.out k hlt
   have HN:Hid _:=fun n hn=>sum_next (n:=n) HA.out HC.out HD.out.1 hlt ⟨hc0,hc1⟩ HD.out.2 hn
   obtain ⟨p,hp⟩:∃ p,p = a k:=⟨_,rfl⟩
   obtain ⟨q,hq⟩:∃ q,q = b k:=⟨_,rfl⟩
   rw [<- hp] at e1 b1 HN
   rw [<- hq] at e2 b2 HN
   clear hp hq
   go_wp2
   go_region
   all_goals go_wp2
   all_goals go_roundw
   all_goals try (case rel=>obtain ⟨n1,n2,n3,n4⟩:=HN.out _ rfl;exact ⟨k + 1,put d k ((p + q + c) % 16777216),(p + q + c) / 16777216,by omega,by go_num,rfl,n2,n3,⟨n1,n4⟩,(HL.out.otherAt (by omega) _).drew,(HR.out.otherAt (by omega) _).drew,(HZ.out.otherAt (by omega) _).drew,(HO.out.put hlt _).drew,(setAt HB.out (by omega) _).drew⟩)
   all_goals try (case measure=>simp [intOf];omega)
  ·have hk8:8 <= (k:Int):=by omega
   have e8:k = 8:=by omega
   have HE:Hid (Digs d/\sv s d = sv s a + sv s b):=by
    obtain ⟨d1,d2⟩:=HD.out
    rw [e8] at d2
    exact ⟨d1,sum_done d1 hc0 d2 HF.out⟩
   obtain ⟨c0,c1,c2,c3,c4,c5,c6,c7,c8⟩:=HO.out.cells
   obtain ⟨r0,r1,r2,r3,r4,r5,r6,r7,r8⟩:=HZ.out.cells
   obtain ⟨f0,f1,f2,f3,f4,f5,f6,f7,f8⟩:=HZ.out.frees
   clear e8 HD HF HA HC
   go_wp2
   try simp only [Exit.inBlock,Exit.then]
   refine bodyPost_ret (by simp [results,Tryz.results122,go_sem,r0,r1,r2,r3,r4,r5,r6,r7,r8];try rfl) rfl ?_
   exact ⟨_,d,rfl,HE.out,below_nine HB.out (by omega)⟩
theorem dif_sv {s t:Bool} {a b d:Nat->Int} (hst:s ≠ t) (h:val d 8 = val a 8 - val b 8):sv s d = sv s a + sv t b:=by
 unfold sv;cases s <;> cases t <;> simp_all <;> omega
theorem dif_sv' {s t:Bool} {a b d:Nat->Int} (hst:s ≠ t) (h:val d 8 = val b 8 - val a 8):sv t d = sv s a + sv t b:=by
 unfold sv;cases s <;> cases t <;> simp_all <;> omega
theorem plus_other (s t:Bool) (a b:Nat->Int) (w:World) (ha:Digs a) (hb:Digs b) (hst:s ≠ t) (hle:val b 8 <= val a 8) :
  Calls Tryz.prog 122 #[wv s a,wv t b] w fun e w'=>∃ u d,e = .returned (wv u d)/\Hid (Digs d/\sv u d = sv s a + sv t b)/\Hid (Below w.heap.size w w'):=by
 have HS:Hid _:=fun w=>sizes_any s t a b w ha hb
 have HA:Hid _:=ha
 have HC:Hid _:=hb
 have HF:Hid (s ≠ t/\val b 8 <= val a 8):=⟨hst,hle⟩
 have hb1:(s == t) = false:=by simp [hst]
 clear ha hb hst hle
 go_enter Tryz.func122,Tryz.ntmps122
 go_wp2_with (fail)
 refine (HS.out _).mono ?_
 rintro e w1 ⟨c,rfl,SC,B⟩
 have hc0:0 <= c:=by have:=HF.out.2;rcases SC.out with h | h | h <;> omega
 have LA:Hid _:=RLies.below (RLies.alloc (RLies.alloc (by show RLies _ _ _ _;have:=lies_new w s a 133;simpa only [World.size_alloc] using this) _) _) B.out (by first | (simp;done) | (simp;omega))
 have LB:Hid _:=RLies.below (RLies.alloc (by show RLies _ _ _ _;have:=lies_new (w.alloc (.cells #[.bool s,.int .i64 (a 0),.int .i64 (a 1),.int .i64 (a 2),.int .i64 (a 3),.int .i64 (a 4),.int .i64 (a 5),.int .i64 (a 6),.int .i64 (a 7)] 133)) t b 133;simpa only [World.size_alloc] using this) _) B.out (by first | (simp;done) | (simp;omega))
 have LZ:Hid _:=RLies.below (by show RLies _ _ _ _;have:=lies_new ((w.alloc (.cells #[.bool s,.int .i64 (a 0),.int .i64 (a 1),.int .i64 (a 2),.int .i64 (a 3),.int .i64 (a 4),.int .i64 (a 5),.int .i64 (a 6),.int .i64 (a 7)] 133)).alloc (.cells #[.bool t,.int .i64 (b 0),.int .i64 (b 1),.int .i64 (b 2),.int .i64 (b 3),.int .i64 (b 4),.int .i64 (b 5),.int .i64 (b 6),.int .i64 (b 7)] 133)) false (fun _=>0) 133;simpa only [World.size_alloc] using this) B.out (by first | (simp;done) | (simp;omega))
 have hs1:=B.out.size
 simp only [World.size_alloc] at hs1
 have HB:Hid _:=below_step (w:=w) (((new_after w _).alloc (by simp) _).alloc (by simp;omega) _) B.out
 obtain ⟨a0,a1,a2,a3,a4,a5,a6,a7,a8⟩:=LA.out.cells
 clear HS SC B
 go_wp2
 obtain ⟨OUT,hOUT⟩:∃ o,o = w1.heap.size:=⟨_,rfl⟩
 rw [<- hOUT] at hs1 ⊢
 have HOUT:Hid _:=hOUT
 clear hOUT
 go_loopw [11,12] (fun cc i wr=>∃ (k:Nat) (d:Nat->Int) (c:Int),k <= 8/\i = .int .i64 k/\cc = .int .i64 c/\0 <= c/\c <= 1/\Hid (Digs d/\val d k - c * 16777216 ^ k = val a k - val b k)/\Hid (RLies wr w.heap.size s a)/\Hid (RLies wr (w.heap.size + 1) t b)/\Hid (RLies wr (w.heap.size + 1 + 1) false (fun _=>0))/\Hid (RLies wr OUT s d)/\Hid (Below w.heap.size w wr)) (fun _ i _=>8 - (intOf i).toNat)
 case atStart =>
  exact ⟨0,a,0,Nat.zero_le _,rfl,rfl,by omega,by omega,⟨HA.out,by simp [val]⟩,LA.out.alloc _,LB.out.alloc _,LZ.out.alloc _,by show RLies _ _ _ _;rw [HOUT.out];exact lies_new w1 s a 133,HB.out.alloc HB.out.size _⟩
 case round =>
  obtain ⟨k,d,c,hk,rfl,rfl,hc0,hc1,HD,HL,HR,HZ,HO,HB⟩:=hrel
  by_cases hlt:k < 8
  ·have e1:=HL.out.dig k hlt
   have e2:=HR.out.dig k hlt
   have e3:=HO.out.dig k hlt
   have e4:=HO.out.free (1 + k) (by omega)
   have i0:(0:Int) <= (k:Int):=by omega
   have i1:(k:Int) < 8:=by omega
   have b1:=HA.out k hlt
   have b2:=HC.out k hlt
   have HN:Hid _:=fun n c' hn=>dif_next (n:=n) (c':=c') HA.out HC.out HD.out.1 hlt ⟨hc0,hc1⟩ HD.out.2 hn
   obtain ⟨p,hp⟩:∃ p,p = a k:=⟨_,rfl⟩
   obtain ⟨q,hq⟩:∃ q,q = b k:=⟨_,rfl⟩
   rw [<- hp] at e1 b1 HN
   rw [<- hq] at e2 b2 HN
   clear hp hq
   by_cases hneg:p - q - c < 0
   ·have HM:Hid _:=HN.out _ _ (Or.inl ⟨hneg,rfl,rfl⟩)
    clear HN
    go_wp2
    go_region
    all_goals go_wp2
    all_goals go_roundw
    all_goals try (case rel=>obtain ⟨n1,n2,n3,n4⟩:=HM.out;exact ⟨k + 1,put d k (p - q - c + 16777216),1,by omega,by go_num,rfl,n2,n3,⟨n1,n4⟩,(HL.out.otherAt (by omega) _).drew,(HR.out.otherAt (by omega) _).drew,(HZ.out.otherAt (by omega) _).drew,(HO.out.put hlt _).drew,(setAt HB.out (by omega) _).drew⟩)
    all_goals try (case measure=>simp [intOf];omega)
   ·have HM:Hid _:=HN.out _ _ (Or.inr ⟨by omega,rfl,rfl⟩)
    clear HN
    go_wp2
    go_region
    all_goals go_wp2
    all_goals go_roundw
    all_goals try (case rel=>obtain ⟨n1,n2,n3,n4⟩:=HM.out;exact ⟨k + 1,put d k (p - q - c),0,by omega,by go_num,rfl,n2,n3,⟨n1,n4⟩,(HL.out.otherAt (by omega) _).drew,(HR.out.otherAt (by omega) _).drew,(HZ.out.otherAt (by omega) _).drew,(HO.out.put hlt _).drew,(setAt HB.out (by omega) _).drew⟩)
    all_goals try (case measure=>simp [intOf];omega)
  ·have hk8:8 <= (k:Int):=by omega
   have e8:k = 8:=by omega
   have HE:Hid (Digs d/\sv s d = sv s a + sv t b):=by
    obtain ⟨d1,d2⟩:=HD.out
    rw [e8] at d2
    exact ⟨d1,dif_sv HF.out.1 (dif_done d1 hc0 d2 HF.out.2)⟩
   obtain ⟨c0,c1,c2,c3,c4,c5,c6,c7,c8⟩:=HO.out.cells
   obtain ⟨r0,r1,r2,r3,r4,r5,r6,r7,r8⟩:=HZ.out.cells
   obtain ⟨f0,f1,f2,f3,f4,f5,f6,f7,f8⟩:=HZ.out.frees
   clear e8 HD HF HA HC
   go_wp2
   try simp only [Exit.inBlock,Exit.then]
   refine bodyPost_ret (by simp [results,Tryz.results122,go_sem,r0,r1,r2,r3,r4,r5,r6,r7,r8];try rfl) rfl ?_
   exact ⟨_,d,rfl,HE.out,below_nine HB.out (by omega)⟩
end
section
open Go.RowKit Ref
theorem size_nine {W:World} {b:Nat} {s:Bool} {d:Nat->Int}:(((((((((W.setCell ⟨b,0,none⟩ (.bool s)).setCell ⟨b,1,none⟩ (.int .i64 (d 0))).setCell ⟨b,2,none⟩ (.int .i64 (d 1))).setCell ⟨b,3,none⟩ (.int .i64 (d 2))).setCell ⟨b,4,none⟩ (.int .i64 (d 3))).setCell ⟨b,5,none⟩ (.int .i64 (d 4))).setCell ⟨b,6,none⟩ (.int .i64 (d 5))).setCell ⟨b,7,none⟩ (.int .i64 (d 6))).setCell ⟨b,8,none⟩ (.int .i64 (d 7))).heap.size = W.heap.size:=by simp [World.setCell]
theorem swapped {w w1:World} {s t:Bool} {a b:Nat->Int} (LA:RLies w1 w.heap.size s a) (LB:RLies w1 (w.heap.size + 1) t b) (LZ:RLies w1 (w.heap.size + 1 + 1) false (fun _=>0)) (HB:Below w.heap.size w w1) :
  RLies ((((((((((((((((((((w1.setCell ⟨w.heap.size,0,none⟩ (.bool t)).setCell ⟨w.heap.size,1,none⟩ (.int .i64 (b 0))).setCell ⟨w.heap.size,2,none⟩ (.int .i64 (b 1))).setCell ⟨w.heap.size,3,none⟩ (.int .i64 (b 2))).setCell ⟨w.heap.size,4,none⟩ (.int .i64 (b 3))).setCell ⟨w.heap.size,5,none⟩ (.int .i64 (b 4))).setCell ⟨w.heap.size,6,none⟩ (.int .i64 (b 5))).setCell ⟨w.heap.size,7,none⟩ (.int .i64 (b 6))).setCell ⟨w.heap.size,8,none⟩ (.int .i64 (b 7))).setCell ⟨(w.heap.size + 1),0,none⟩ (.bool s)).setCell ⟨(w.heap.size + 1),1,none⟩ (.int .i64 (a 0))).setCell ⟨(w.heap.size + 1),2,none⟩ (.int .i64 (a 1))).setCell ⟨(w.heap.size + 1),3,none⟩ (.int .i64 (a 2))).setCell ⟨(w.heap.size + 1),4,none⟩ (.int .i64 (a 3))).setCell ⟨(w.heap.size + 1),5,none⟩ (.int .i64 (a 4))).setCell ⟨(w.heap.size + 1),6,none⟩ (.int .i64 (a 5))).setCell ⟨(w.heap.size + 1),7,none⟩ (.int .i64 (a 6))).setCell ⟨(w.heap.size + 1),8,none⟩ (.int .i64 (a 7))).alloc (.cells #[.bool s,.int .i64 (a 0),.int .i64 (a 1),.int .i64 (a 2),.int .i64 (a 3),.int .i64 (a 4),.int .i64 (a 5),.int .i64 (a 6),.int .i64 (a 7)] 133)).alloc (.cells #[.bool t,.int .i64 (b 0),.int .i64 (b 1),.int .i64 (b 2),.int .i64 (b 3),.int .i64 (b 4),.int .i64 (b 5),.int .i64 (b 6),.int .i64 (b 7)] 133)) w.heap.size t b/\RLies ((((((((((((((((((((w1.setCell ⟨w.heap.size,0,none⟩ (.bool t)).setCell ⟨w.heap.size,1,none⟩ (.int .i64 (b 0))).setCell ⟨w.heap.size,2,none⟩ (.int .i64 (b 1))).setCell ⟨w.heap.size,3,none⟩ (.int .i64 (b 2))).setCell ⟨w.heap.size,4,none⟩ (.int .i64 (b 3))).setCell ⟨w.heap.size,5,none⟩ (.int .i64 (b 4))).setCell ⟨w.heap.size,6,none⟩ (.int .i64 (b 5))).setCell ⟨w.heap.size,7,none⟩ (.int .i64 (b 6))).setCell ⟨w.heap.size,8,none⟩ (.int .i64 (b 7))).setCell ⟨(w.heap.size + 1),0,none⟩ (.bool s)).setCell ⟨(w.heap.size + 1),1,none⟩ (.int .i64 (a 0))).setCell ⟨(w.heap.size + 1),2,none⟩ (.int .i64 (a 1))).setCell ⟨(w.heap.size + 1),3,none⟩ (.int .i64 (a 2))).setCell ⟨(w.heap.size + 1),4,none⟩ (.int .i64 (a 3))).setCell ⟨(w.heap.size + 1),5,none⟩ (.int .i64 (a 4))).setCell ⟨(w.heap.size + 1),6,none⟩ (.int .i64 (a 5))).setCell ⟨(w.heap.size + 1),7,none⟩ (.int .i64 (a 6))).setCell ⟨(w.heap.size + 1),8,none⟩ (.int .i64 (a 7))).alloc (.cells #[.bool s,.int .i64 (a 0),.int .i64 (a 1),.int .i64 (a 2),.int .i64 (a 3),.int .i64 (a 4),.int .i64 (a 5),.int .i64 (a 6),.int .i64 (a 7)] 133)).alloc (.cells #[.bool t,.int .i64 (b 0),.int .i64 (b 1),.int .i64 (b 2),.int .i64 (b 3),.int .i64 (b 4),.int .i64 (b 5),.int .i64 (b 6),.int .i64 (b 7)] 133)) (w.heap.size + 1) s a/\RLies ((((((((((((((((((((w1.setCell ⟨w.heap.size,0,none⟩ (.bool t)).setCell ⟨w.heap.size,1,none⟩ (.int .i64 (b 0))).setCell ⟨w.heap.size,2,none⟩ (.int .i64 (b 1))).setCell ⟨w.heap.size,3,none⟩ (.int .i64 (b 2))).setCell ⟨w.heap.size,4,none⟩ (.int .i64 (b 3))).setCell ⟨w.heap.size,5,none⟩ (.int .i64 (b 4))).setCell ⟨w.heap.size,6,none⟩ (.int .i64 (b 5))).setCell ⟨w.heap.size,7,none⟩ (.int .i64 (b 6))).setCell ⟨w.heap.size,8,none⟩ (.int .i64 (b 7))).setCell ⟨(w.heap.size + 1),0,none⟩ (.bool s)).setCell ⟨(w.heap.size + 1),1,none⟩ (.int .i64 (a 0))).setCell ⟨(w.heap.size + 1),2,none⟩ (.int .i64 (a 1))).setCell ⟨(w.heap.size + 1),3,none⟩ (.int .i64 (a 2))).setCell ⟨(w.heap.size + 1),4,none⟩ (.int .i64 (a 3))).setCell ⟨(w.heap.size + 1),5,none⟩ (.int .i64 (a 4))).setCell ⟨(w.heap.size + 1),6,none⟩ (.int .i64 (a 5))).setCell ⟨(w.heap.size + 1),7,none⟩ (.int .i64 (a 6))).setCell ⟨(w.heap.size + 1),8,none⟩ (.int .i64 (a 7))).alloc (.cells #[.bool s,.int .i64 (a 0),.int .i64 (a 1),.int .i64 (a 2),.int .i64 (a 3),.int .i64 (a 4),.int .i64 (a 5),.int .i64 (a 6),.int .i64 (a 7)] 133)).alloc (.cells #[.bool t,.int .i64 (b 0),.int .i64 (b 1),.int .i64 (b 2),.int .i64 (b 3),.int .i64 (b 4),.int .i64 (b 5),.int .i64 (b 6),.int .i64 (b 7)] 133)) (w.heap.size + 1 + 1) false (fun _=>0) /\
  RLies ((((((((((((((((((((w1.setCell ⟨w.heap.size,0,none⟩ (.bool t)).setCell ⟨w.heap.size,1,none⟩ (.int .i64 (b 0))).setCell ⟨w.heap.size,2,none⟩ (.int .i64 (b 1))).setCell ⟨w.heap.size,3,none⟩ (.int .i64 (b 2))).setCell ⟨w.heap.size,4,none⟩ (.int .i64 (b 3))).setCell ⟨w.heap.size,5,none⟩ (.int .i64 (b 4))).setCell ⟨w.heap.size,6,none⟩ (.int .i64 (b 5))).setCell ⟨w.heap.size,7,none⟩ (.int .i64 (b 6))).setCell ⟨w.heap.size,8,none⟩ (.int .i64 (b 7))).setCell ⟨(w.heap.size + 1),0,none⟩ (.bool s)).setCell ⟨(w.heap.size + 1),1,none⟩ (.int .i64 (a 0))).setCell ⟨(w.heap.size + 1),2,none⟩ (.int .i64 (a 1))).setCell ⟨(w.heap.size + 1),3,none⟩ (.int .i64 (a 2))).setCell ⟨(w.heap.size + 1),4,none⟩ (.int .i64 (a 3))).setCell ⟨(w.heap.size + 1),5,none⟩ (.int .i64 (a 4))).setCell ⟨(w.heap.size + 1),6,none⟩ (.int .i64 (a 5))).setCell ⟨(w.heap.size + 1),7,none⟩ (.int .i64 (a 6))).setCell ⟨(w.heap.size + 1),8,none⟩ (.int .i64 (a 7))).alloc (.cells #[.bool s,.int .i64 (a 0),.int .i64 (a 1),.int .i64 (a 2),.int .i64 (a 3),.int .i64 (a 4),.int .i64 (a 5),.int .i64 (a 6),.int .i64 (a 7)] 133)).alloc (.cells #[.bool t,.int .i64 (b 0),.int .i64 (b 1),.int .i64 (b 2),.int .i64 (b 3),.int .i64 (b 4),.int .i64 (b 5),.int .i64 (b 6),.int .i64 (b 7)] 133)) (w1.heap.size + 1) t b/\Below w.heap.size w ((((((((((((((((((((w1.setCell ⟨w.heap.size,0,none⟩ (.bool t)).setCell ⟨w.heap.size,1,none⟩ (.int .i64 (b 0))).setCell ⟨w.heap.size,2,none⟩ (.int .i64 (b 1))).setCell ⟨w.heap.size,3,none⟩ (.int .i64 (b 2))).setCell ⟨w.heap.size,4,none⟩ (.int .i64 (b 3))).setCell ⟨w.heap.size,5,none⟩ (.int .i64 (b 4))).setCell ⟨w.heap.size,6,none⟩ (.int .i64 (b 5))).setCell ⟨w.heap.size,7,none⟩ (.int .i64 (b 6))).setCell ⟨w.heap.size,8,none⟩ (.int .i64 (b 7))).setCell ⟨(w.heap.size + 1),0,none⟩ (.bool s)).setCell ⟨(w.heap.size + 1),1,none⟩ (.int .i64 (a 0))).setCell ⟨(w.heap.size + 1),2,none⟩ (.int .i64 (a 1))).setCell ⟨(w.heap.size + 1),3,none⟩ (.int .i64 (a 2))).setCell ⟨(w.heap.size + 1),4,none⟩ (.int .i64 (a 3))).setCell ⟨(w.heap.size + 1),5,none⟩ (.int .i64 (a 4))).setCell ⟨(w.heap.size + 1),6,none⟩ (.int .i64 (a 5))).setCell ⟨(w.heap.size + 1),7,none⟩ (.int .i64 (a 6))).setCell ⟨(w.heap.size + 1),8,none⟩ (.int .i64 (a 7))).alloc (.cells #[.bool s,.int .i64 (a 0),.int .i64 (a 1),.int .i64 (a 2),.int .i64 (a 3),.int .i64 (a 4),.int .i64 (a 5),.int .i64 (a 6),.int .i64 (a 7)] 133)).alloc (.cells #[.bool t,.int .i64 (b 0),.int .i64 (b 1),.int .i64 (b 2),.int .i64 (b 3),.int .i64 (b 4),.int .i64 (b 5),.int .i64 (b 6),.int .i64 (b 7)] 133)):=by
 have hs:((((((((((((((((((w1.setCell ⟨w.heap.size,0,none⟩ (.bool t)).setCell ⟨w.heap.size,1,none⟩ (.int .i64 (b 0))).setCell ⟨w.heap.size,2,none⟩ (.int .i64 (b 1))).setCell ⟨w.heap.size,3,none⟩ (.int .i64 (b 2))).setCell ⟨w.heap.size,4,none⟩ (.int .i64 (b 3))).setCell ⟨w.heap.size,5,none⟩ (.int .i64 (b 4))).setCell ⟨w.heap.size,6,none⟩ (.int .i64 (b 5))).setCell ⟨w.heap.size,7,none⟩ (.int .i64 (b 6))).setCell ⟨w.heap.size,8,none⟩ (.int .i64 (b 7))).setCell ⟨(w.heap.size + 1),0,none⟩ (.bool s)).setCell ⟨(w.heap.size + 1),1,none⟩ (.int .i64 (a 0))).setCell ⟨(w.heap.size + 1),2,none⟩ (.int .i64 (a 1))).setCell ⟨(w.heap.size + 1),3,none⟩ (.int .i64 (a 2))).setCell ⟨(w.heap.size + 1),4,none⟩ (.int .i64 (a 3))).setCell ⟨(w.heap.size + 1),5,none⟩ (.int .i64 (a 4))).setCell ⟨(w.heap.size + 1),6,none⟩ (.int .i64 (a 5))).setCell ⟨(w.heap.size + 1),7,none⟩ (.int .i64 (a 6))).setCell ⟨(w.heap.size + 1),8,none⟩ (.int .i64 (a 7))).heap.size = w1.heap.size:=by rw [size_nine,size_nine]
 refine ⟨(((lies_nine LA).nine (by omega)).alloc _).alloc _,((lies_nine (LB.nine (by omega))).alloc _).alloc _,(((LZ.nine (by omega)).nine (by omega)).alloc _).alloc _,?_,?_⟩
 ·have:=lies_new (((((((((((((((((((w1.setCell ⟨w.heap.size,0,none⟩ (.bool t)).setCell ⟨w.heap.size,1,none⟩ (.int .i64 (b 0))).setCell ⟨w.heap.size,2,none⟩ (.int .i64 (b 1))).setCell ⟨w.heap.size,3,none⟩ (.int .i64 (b 2))).setCell ⟨w.heap.size,4,none⟩ (.int .i64 (b 3))).setCell ⟨w.heap.size,5,none⟩ (.int .i64 (b 4))).setCell ⟨w.heap.size,6,none⟩ (.int .i64 (b 5))).setCell ⟨w.heap.size,7,none⟩ (.int .i64 (b 6))).setCell ⟨w.heap.size,8,none⟩ (.int .i64 (b 7))).setCell ⟨(w.heap.size + 1),0,none⟩ (.bool s)).setCell ⟨(w.heap.size + 1),1,none⟩ (.int .i64 (a 0))).setCell ⟨(w.heap.size + 1),2,none⟩ (.int .i64 (a 1))).setCell ⟨(w.heap.size + 1),3,none⟩ (.int .i64 (a 2))).setCell ⟨(w.heap.size + 1),4,none⟩ (.int .i64 (a 3))).setCell ⟨(w.heap.size + 1),5,none⟩ (.int .i64 (a 4))).setCell ⟨(w.heap.size + 1),6,none⟩ (.int .i64 (a 5))).setCell ⟨(w.heap.size + 1),7,none⟩ (.int .i64 (a 6))).setCell ⟨(w.heap.size + 1),8,none⟩ (.int .i64 (a 7))).alloc (.cells #[.bool s,.int .i64 (a 0),.int .i64 (a 1),.int .i64 (a 2),.int .i64 (a 3),.int .i64 (a 4),.int .i64 (a 5),.int .i64 (a 6),.int .i64 (a 7)] 133)) t b 133
  rwa [World.size_alloc,hs] at this
 ·have h1:Below w.heap.size w ((((((((((((((((((w1.setCell ⟨w.heap.size,0,none⟩ (.bool t)).setCell ⟨w.heap.size,1,none⟩ (.int .i64 (b 0))).setCell ⟨w.heap.size,2,none⟩ (.int .i64 (b 1))).setCell ⟨w.heap.size,3,none⟩ (.int .i64 (b 2))).setCell ⟨w.heap.size,4,none⟩ (.int .i64 (b 3))).setCell ⟨w.heap.size,5,none⟩ (.int .i64 (b 4))).setCell ⟨w.heap.size,6,none⟩ (.int .i64 (b 5))).setCell ⟨w.heap.size,7,none⟩ (.int .i64 (b 6))).setCell ⟨w.heap.size,8,none⟩ (.int .i64 (b 7))).setCell ⟨(w.heap.size + 1),0,none⟩ (.bool s)).setCell ⟨(w.heap.size + 1),1,none⟩ (.int .i64 (a 0))).setCell ⟨(w.heap.size + 1),2,none⟩ (.int .i64 (a 1))).setCell ⟨(w.heap.size + 1),3,none⟩ (.int .i64 (a 2))).setCell ⟨(w.heap.size + 1),4,none⟩ (.int .i64 (a 3))).setCell ⟨(w.heap.size + 1),5,none⟩ (.int .i64 (a 4))).setCell ⟨(w.heap.size + 1),6,none⟩ (.int .i64 (a 5))).setCell ⟨(w.heap.size + 1),7,none⟩ (.int .i64 (a 6))).setCell ⟨(w.heap.size + 1),8,none⟩ (.int .i64 (a 7))):=below_nine (below_nine HB (Nat.le_refl _)) (by omega)
  have h2:=h1.size
  exact (h1.alloc h2 _).alloc (by rw [World.size_alloc];omega) _
theorem plus_swap (s t:Bool) (a b:Nat->Int) (w:World) (ha:Digs a) (hb:Digs b) (hst:s ≠ t) (hle:val a 8 < val b 8) :
  Calls Tryz.prog 122 #[wv s a,wv t b] w fun e w'=>∃ u d,e = .returned (wv u d)/\Hid (Digs d/\sv u d = sv s a + sv t b)/\Hid (Below w.heap.size w w'):=by
 have HS:Hid _:=fun w=>sizes_any s t a b w ha hb
 have HC:Hid _:=ha
 have HA:Hid _:=hb
 have HF:Hid (s ≠ t/\val a 8 < val b 8):=⟨hst,hle⟩
 have hb1:(s == t) = false:=by simp [hst]
 clear ha hb hst hle
 go_enter Tryz.func122,Tryz.ntmps122
 go_wp2_with (fail)
 refine (HS.out _).mono ?_
 rintro e w1 ⟨c,rfl,SC,B⟩
 have hc0:c < 0:=by have:=HF.out.2;rcases SC.out with h | h | h <;> omega
 have LA:Hid _:=RLies.below (RLies.alloc (RLies.alloc (by show RLies _ _ _ _;have:=lies_new w s a 133;simpa only [World.size_alloc] using this) _) _) B.out (by first | (simp;done) | (simp;omega))
 have LB:Hid _:=RLies.below (RLies.alloc (by show RLies _ _ _ _;have:=lies_new (w.alloc (.cells #[.bool s,.int .i64 (a 0),.int .i64 (a 1),.int .i64 (a 2),.int .i64 (a 3),.int .i64 (a 4),.int .i64 (a 5),.int .i64 (a 6),.int .i64 (a 7)] 133)) t b 133;simpa only [World.size_alloc] using this) _) B.out (by first | (simp;done) | (simp;omega))
 have LZ:Hid _:=RLies.below (by show RLies _ _ _ _;have:=lies_new ((w.alloc (.cells #[.bool s,.int .i64 (a 0),.int .i64 (a 1),.int .i64 (a 2),.int .i64 (a 3),.int .i64 (a 4),.int .i64 (a 5),.int .i64 (a 6),.int .i64 (a 7)] 133)).alloc (.cells #[.bool t,.int .i64 (b 0),.int .i64 (b 1),.int .i64 (b 2),.int .i64 (b 3),.int .i64 (b 4),.int .i64 (b 5),.int .i64 (b 6),.int .i64 (b 7)] 133)) false (fun _=>0) 133;simpa only [World.size_alloc] using this) B.out (by first | (simp;done) | (simp;omega))
 have hs1:=B.out.size
 simp only [World.size_alloc] at hs1
 have HB:Hid _:=below_step (w:=w) (((new_after w _).alloc (by simp) _).alloc (by simp;omega) _) B.out
 obtain ⟨a0,a1,a2,a3,a4,a5,a6,a7,a8⟩:=LA.out.cells
 obtain ⟨g0,g1,g2,g3,g4,g5,g6,g7,g8⟩:=LA.out.frees
 obtain ⟨b0,b1,b2,b3,b4,b5,b6,b7,b8⟩:=LB.out.cells
 obtain ⟨h0,h1,h2,h3,h4,h5,h6,h7,h8⟩:=LB.out.frees
 have m0:w.heap.size < w1.heap.size:=by omega
 have m1:w.heap.size + 1 < w1.heap.size:=by omega
 have n0:w.heap.size ≠ w1.heap.size:=by omega
 have n1:w.heap.size + 1 ≠ w1.heap.size:=by omega
 have n2:w1.heap.size ≠ w.heap.size:=by omega
 have n3:w1.heap.size ≠ w.heap.size + 1:=by omega
 clear HS SC B
 go_wp2
 obtain ⟨x1,x2,x3,x4,x5⟩:=swapped LA.out LB.out LZ.out HB.out
 have X1:Hid _:=x1
 have X2:Hid _:=x2
 have X3:Hid _:=x3
 have X4:Hid _:=x4
 have X5:Hid _:=x5
 clear x1 x2 x3 x4 x5 LA LB LZ HB a0 a1 a2 a3 a4 a5 a6 a7 a8 g0 g1 g2 g3 g4 g5 g6 g7 g8 b0 b1 b2 b3 b4 b5 b6 b7 b8 h0 h1 h2 h3 h4 h5 h6 h7 h8
 obtain ⟨OUT,hOUT⟩:∃ o,o = w1.heap.size + 1:=⟨_,rfl⟩
 rw [<- hOUT]
 rw [<- hOUT] at X4
 have hs2:w.heap.size + 3 < OUT:=by omega
 clear hOUT
 go_loopw [11,12] (fun cc i wr=>∃ (k:Nat) (d:Nat->Int) (c:Int),k <= 8/\i = .int .i64 k/\cc = .int .i64 c/\0 <= c/\c <= 1/\Hid (Digs d/\val d k - c * 16777216 ^ k = val b k - val a k)/\Hid (RLies wr w.heap.size t b)/\Hid (RLies wr (w.heap.size + 1) s a)/\Hid (RLies wr (w.heap.size + 1 + 1) false (fun _=>0))/\Hid (RLies wr OUT t d)/\Hid (Below w.heap.size w wr)) (fun _ i _=>8 - (intOf i).toNat)
 case atStart =>
  exact ⟨0,b,0,Nat.zero_le _,rfl,rfl,by omega,by omega,⟨HA.out,by simp [val]⟩,X1,X2,X3,X4,X5⟩
 case round =>
  obtain ⟨k,d,c,hk,rfl,rfl,hc0,hc1,HD,HL,HR,HZ,HO,HB⟩:=hrel
  by_cases hlt:k < 8
  ·have e1:=HL.out.dig k hlt
   have e2:=HR.out.dig k hlt
   have e3:=HO.out.dig k hlt
   have e4:=HO.out.free (1 + k) (by omega)
   have i0:(0:Int) <= (k:Int):=by omega
   have i1:(k:Int) < 8:=by omega
   have b1:=HA.out k hlt
   have b2:=HC.out k hlt
   have HN:Hid _:=fun n c' hn=>dif_next (n:=n) (c':=c') HA.out HC.out HD.out.1 hlt ⟨hc0,hc1⟩ HD.out.2 hn
   obtain ⟨p,hp⟩:∃ p,p = b k:=⟨_,rfl⟩
   obtain ⟨q,hq⟩:∃ q,q = a k:=⟨_,rfl⟩
   rw [<- hp] at e1 b1 HN
   rw [<- hq] at e2 b2 HN
   clear hp hq
   by_cases hneg:p - q - c < 0
   ·have HM:Hid _:=HN.out _ _ (Or.inl ⟨hneg,rfl,rfl⟩)
    clear HN
    go_wp2
    go_region
    all_goals go_wp2
    all_goals go_roundw
    all_goals try (case rel=>obtain ⟨n1,n2,n3,n4⟩:=HM.out;exact ⟨k + 1,put d k (p - q - c + 16777216),1,by omega,by go_num,rfl,n2,n3,⟨n1,n4⟩,(HL.out.otherAt (by omega) _).drew,(HR.out.otherAt (by omega) _).drew,(HZ.out.otherAt (by omega) _).drew,(HO.out.put hlt _).drew,(setAt HB.out (by omega) _).drew⟩)
    all_goals try (case measure=>simp [intOf];omega)
   ·have HM:Hid _:=HN.out _ _ (Or.inr ⟨by omega,rfl,rfl⟩)
    clear HN
    go_wp2
    go_region
    all_goals go_wp2
    all_goals go_roundw
    all_goals try (case rel=>obtain ⟨n1,n2,n3,n4⟩:=HM.out;exact ⟨k + 1,put d k (p - q - c),0,by omega,by go_num,rfl,n2,n3,⟨n1,n4⟩,(HL.out.otherAt (by omega) _).drew,(HR.out.otherAt (by omega) _).drew,(HZ.out.otherAt (by omega) _).drew,(HO.out.put hlt _).drew,(setAt HB.out (by omega) _).drew⟩)
    all_goals try (case measure=>simp [intOf];omega)
  ·have hk8:8 <= (k:Int):=by omega
   have e8:k = 8:=by omega
   have HE:Hid (Digs d/\sv t d = sv s a + sv t b):=by
    obtain ⟨d1,d2⟩:=HD.out
    rw [e8] at d2
    exact ⟨d1,dif_sv' HF.out.1 (dif_done d1 hc0 d2 (Int.le_of_lt HF.out.2))⟩
   obtain ⟨c0,c1,c2,c3,c4,c5,c6,c7,c8⟩:=HO.out.cells
   obtain ⟨r0,r1,r2,r3,r4,r5,r6,r7,r8⟩:=HZ.out.cells
   obtain ⟨f0,f1,f2,f3,f4,f5,f6,f7,f8⟩:=HZ.out.frees
   clear e8 HD HF HA HC
   go_wp2
   try simp only [Exit.inBlock,Exit.then]
   refine bodyPost_ret (by simp [results,Tryz.results122,go_sem,r0,r1,r2,r3,r4,r5,r6,r7,r8];try rfl) rfl ?_
   exact ⟨_,d,rfl,HE.out,below_nine HB.out (by omega)⟩
theorem plusw_any (s t:Bool) (a b:Nat->Int) (w:World) (ha:Digs a) (hb:Digs b) (hfit:(sv s a + sv t b).natAbs < 6277101735386680763835789423207666416102355444464034512896) :
  Calls Tryz.prog 122 #[wv s a,wv t b] w fun e w'=>∃ u d,e = .returned (wv u d)/\Hid (Digs d/\sv u d = sv s a + sv t b)/\Hid (Below w.heap.size w w'):=by
 by_cases hst:s = t
 ·subst hst;exact plus_same s a b w ha hb hfit
 ·by_cases hle:val b 8 <= val a 8
  ·exact plus_other s t a b w ha hb hst hle
  ·exact plus_swap s t a b w ha hb hst (by omega)
theorem sv_not (t:Bool) (b:Nat->Int):sv (!t) b = -sv t b:=by unfold sv;cases t <;> simp
theorem rless_any (s t:Bool) (a b:Nat->Int) (w:World) (ha:Digs a) (hb:Digs b) (hfit:(sv s a - sv t b).natAbs < 6277101735386680763835789423207666416102355444464034512896) :
  Calls Tryz.prog 121 #[wv s a,wv t b] w fun e w'=>∃ c,e = .returned (.bool c)/\Hid (c = true ↔ sv s a < sv t b)/\Hid (Below w.heap.size w w'):=by
 have HP:Hid _:=fun w=>plusw_any s (!t) a b w ha hb (by rw [sv_not];exact hfit)
 clear ha hb hfit
 go_enter Tryz.func121,Tryz.ntmps121
 go_wp2_with (fail)
 refine (HP.out _).mono ?_
 rintro e w1 ⟨u,d,rfl,SC,B⟩
 have HS:Hid _:=fun w=>sign_any u d w SC.out.1
 have HB:Hid _:=below_step (w:=w) ((new_after w _).alloc (by simp) _) B.out
 clear B HP
 go_wp2_with (fail)
 refine (HS.out _).mono ?_
 rintro e w2 ⟨c,rfl,SD,B⟩
 have HB2:Hid _:=below_step HB.out B.out
 clear B HS HB
 go_wp2_with (fail)
 go_ret
 refine ⟨_,rfl,?_,HB2.out⟩
 have h1:=SD.out.2.2
 have h2:=SC.out.2
 rw [sv_not] at h2
 show _ ↔ _
 simp only [decide_eq_true_eq]
 omega
end
section
open Go.RowKit Ref
theorem val_succ (d:Nat->Int) (n:Nat):val d (n + 1) = val d n + d n * 16777216 ^ n:=rfl
theorem val_split (b:Nat->Int) (n:Nat):∀ m,val b (n + m) = val b n + 16777216 ^ n * val (fun j=>b (n + j)) m
 | 0=>by simp [val]
 | m + 1=>by
  rw [<- Nat.add_assoc]
  simp only [val]
  rw [val_split b n m,Int.pow_add]
  grind
theorem times_zero {a b d:Nat->Int} {k:Nat} (h:∃ m:Int,val d 8 + m * 16777216 ^ 8 = val a k * val b 8) (hz:a k = 0):∃ m:Int,val d 8 + m * 16777216 ^ 8 = val a (k + 1) * val b 8:=by
 obtain ⟨m,h⟩:=h
 exact ⟨m,by rw [val_succ a k,hz,Int.zero_mul,Int.add_zero];exact h⟩
theorem times_next {b d e:Nat->Int} {k j:Nat} {x c y o:Int} (hb:0 <= y/\y < 16777216) (hx:0 <= x/\x < 16777216) (ho:0 <= o/\o < 16777216) (he:Digs e) (hkj:k + j < 8) (hc:0 <= c/\c < 16777216) (ey:y = b j) (eo:o = e (k + j))
  (h:val e 8 + c * 16777216 ^ (k + j) = val d 8 + x * val b j * 16777216 ^ k) :
  Digs (put e (k + j) ((o + x * y + c) % 16777216))/\0 <= (o + x * y + c) / 16777216/\(o + x * y + c) / 16777216 < 16777216 /\
  val (put e (k + j) ((o + x * y + c) % 16777216)) 8 + (o + x * y + c) / 16777216 * 16777216 ^ (k + (j + 1)) = val d 8 + x * val b (j + 1) * 16777216 ^ k:=by
 have hp0:0 <= x * y:=Int.mul_nonneg hx.1 hb.1
 have hp1:x * y <= 16777215 * 16777215:=Int.mul_le_mul (by omega) (by omega) hb.1 (by omega)
 refine ⟨he.put _ ⟨Int.emod_nonneg _ (by omega),Int.emod_lt_of_pos _ (by omega)⟩,by omega,by omega,?_⟩
 rw [val_put _ _ _ 8 hkj,<- eo,<- Nat.add_assoc,Int.pow_succ]
 have:=mul_step (o:=o) (x:=x) (y:=y) h
 rw [this,val_succ b j,<- ey,Int.pow_add]
 generalize val d 8 = D8 at *
 grind
theorem times_round {a b d e:Nat->Int} {k j:Nat} {c:Int} (h:∃ m:Int,val d 8 + m * 16777216 ^ 8 = val a k * val b 8) (hj:k + j = 8)
  (hi:val e 8 + c * 16777216 ^ (k + j) = val d 8 + a k * val b j * 16777216 ^ k):∃ m:Int,val e 8 + m * 16777216 ^ 8 = val a (k + 1) * val b 8:=by
 obtain ⟨m,h⟩:=h
 have hs:=val_split b j k
 rw [Nat.add_comm j k,hj] at hs
 have hp:(16777216:Int) ^ 8 = 16777216 ^ j * 16777216 ^ k:=by rw [<- Int.pow_add,Nat.add_comm j k,hj]
 rw [hj] at hi
 refine ⟨c + m + a k * val (fun i=>b (j + i)) k,?_⟩
 rw [val_succ a k]
 rw [hp] at h hi ⊢
 clear hp
 generalize val (fun i=>b (j + i)) k = R at *
 generalize val b 8 = B8 at *
 generalize val d 8 = D8 at *
 generalize val e 8 = E8 at *
 generalize (16777216:Int) ^ j = X at *
 generalize (16777216:Int) ^ k = Y at *
 grind
theorem times_done {a b d:Nat->Int} {s t:Bool} (ha:Digs a) (hb:Digs b) (hd:Digs d) (h:∃ m:Int,val d 8 + m * 16777216 ^ 8 = val a 8 * val b 8) (hfit:(sv s a * sv t b).natAbs < 6277101735386680763835789423207666416102355444464034512896) :
  sv (s != t) d = sv s a * sv t b:=by
 obtain ⟨m,h⟩:=h
 have h1:(16777216:Int) ^ 8 = 6277101735386680763835789423207666416102355444464034512896:=by decide
 rw [h1] at h
 have d0:=hd.nonneg
 have d1:=hd.lt
 have hp:0 <= val a 8 * val b 8:=Int.mul_nonneg ha.nonneg hb.nonneg
 have e:(sv s a * sv t b).natAbs = (val a 8 * val b 8).natAbs:=by unfold sv;cases s <;> cases t <;> simp [Int.natAbs_mul]
 rw [e] at hfit
 have hv:val d 8 = val a 8 * val b 8:=by omega
 unfold sv
 rw [hv]
 cases s <;> cases t <;> simp [Int.neg_mul,Int.mul_neg]
theorem RLies.sign {W:World} {b:Nat} {s:Bool} {d:Nat->Int} (h:RLies W b s d) (t:Bool):RLies (W.setCell ⟨b,0,none⟩ (.bool t)) b t d:=by
 have hn:=h.neg
 refine ⟨by simp [go_sem,hn],fun k hk=>?_,fun k hk=>?_⟩
 ·rw [<- h.dig k hk];simp [go_sem]
 ·rw [<- h.free k hk];simp [go_sem]
theorem times_any (s t:Bool) (a b:Nat->Int) (w:World) (ha:Digs a) (hb:Digs b) (hfit:(sv s a * sv t b).natAbs < 6277101735386680763835789423207666416102355444464034512896) :
  Calls Tryz.prog 119 #[wv s a,wv t b] w fun e w'=>∃ u d,e = .returned (wv u d)/\Hid (Digs d/\sv u d = sv s a * sv t b)/\Hid (Below w.heap.size w w'):=by
 have HE:Hid _:=fun d (hd:Digs d) h=>times_done (s:=s) (t:=t) ha hb hd h hfit
 have HA:Hid _:=ha
 have HC:Hid _:=hb
 clear ha hb hfit
 go_enter Tryz.func119,Tryz.ntmps119
 go_wp2
 go_loopw [6] (fun i wr=>∃ (k:Nat) (d:Nat->Int),k <= 8/\i = .int .i64 k/\Hid (Digs d/\∃ m:Int,val d 8 + m * 16777216 ^ 8 = val a k * val b 8)/\Hid (RLies wr w.heap.size s a)/\Hid (RLies wr (w.heap.size + 1) t b)/\Hid (RLies wr (w.heap.size + 1 + 1) false (fun _=>0))/\Hid (RLies wr (w.heap.size + 1 + 1 + 1) false d)/\Hid (Below w.heap.size w wr)) (fun i _=>8 - (intOf i).toNat)
 case atStart =>
  exact ⟨0,fun _=>0,Nat.zero_le _,rfl,⟨fun j _=>by simp,0,by simp [val]⟩,(RLies.alloc (RLies.alloc (RLies.alloc (by show RLies _ _ _ _;have:=lies_new w s a 133;simpa only [World.size_alloc] using this) _) _) _),(RLies.alloc (RLies.alloc (by show RLies _ _ _ _;have:=lies_new (w.alloc (.cells #[.bool s,.int .i64 (a 0),.int .i64 (a 1),.int .i64 (a 2),.int .i64 (a 3),.int .i64 (a 4),.int .i64 (a 5),.int .i64 (a 6),.int .i64 (a 7)] 133)) t b 133;simpa only [World.size_alloc] using this) _) _),(RLies.alloc (by show RLies _ _ _ _;have:=lies_new ((w.alloc (.cells #[.bool s,.int .i64 (a 0),.int .i64 (a 1),.int .i64 (a 2),.int .i64 (a 3),.int .i64 (a 4),.int .i64 (a 5),.int .i64 (a 6),.int .i64 (a 7)] 133)).alloc (.cells #[.bool t,.int .i64 (b 0),.int .i64 (b 1),.int .i64 (b 2),.int .i64 (b 3),.int .i64 (b 4),.int .i64 (b 5),.int .i64 (b 6),.int .i64 (b 7)] 133)) false (fun _=>0) 133;simpa only [World.size_alloc] using this) _),(by show RLies _ _ _ _;have:=lies_new (((w.alloc (.cells #[.bool s,.int .i64 (a 0),.int .i64 (a 1),.int .i64 (a 2),.int .i64 (a 3),.int .i64 (a 4),.int .i64 (a 5),.int .i64 (a 6),.int .i64 (a 7)] 133)).alloc (.cells #[.bool t,.int .i64 (b 0),.int .i64 (b 1),.int .i64 (b 2),.int .i64 (b 3),.int .i64 (b 4),.int .i64 (b 5),.int .i64 (b 6),.int .i64 (b 7)] 133)).alloc (.cells #[.bool false,.int .i64 0,.int .i64 0,.int .i64 0,.int .i64 0,.int .i64 0,.int .i64 0,.int .i64 0,.int .i64 0] 133)) false (fun _=>0) 133;simpa only [World.size_alloc] using this),((((new_after w _).alloc (by simp) _).alloc (by simp;omega) _).alloc (by simp;omega) _)⟩
 case round =>
  obtain ⟨k,d,hk,rfl,HD,HL,HR,HZ,HO,HB⟩:=hrel
  by_cases hlt:k < 8
  ·have e1:=HL.out.dig k hlt
   have i0:(0:Int) <= (k:Int):=by omega
   have i1:(k:Int) < 8:=by omega
   have b1:=HA.out k hlt
   obtain ⟨x,hx⟩:∃ x,x = a k:=⟨_,rfl⟩
   rw [<- hx] at e1 b1
   by_cases hz:x = 0
   ·have HM:Hid _:=times_zero HD.out.2 (by rw [<- hx,hz])
    clear hx
    go_wp2
    go_roundw
    case rel=>exact ⟨k + 1,d,by omega,by go_num,⟨HD.out.1,HM.out⟩,HL.out,HR.out,HZ.out,HO.out,HB.out⟩
    case measure=>simp [intOf];omega
   ·have HX:Hid _:=hx
    clear hx
    go_wp2
    go_loopw [7,8] (fun cc i wr=>∃ (j:Nat) (e:Nat->Int) (c:Int),k + j <= 8/\i = .int .i64 j/\cc = .int .i64 c/\0 <= c/\c < 16777216/\Hid (Digs e/\val e 8 + c * 16777216 ^ (k + j) = val d 8 + x * val b j * 16777216 ^ k)/\Hid (RLies wr w.heap.size s a)/\Hid (RLies wr (w.heap.size + 1) t b)/\Hid (RLies wr (w.heap.size + 1 + 1) false (fun _=>0))/\Hid (RLies wr (w.heap.size + 1 + 1 + 1) false e)/\Hid (Below w.heap.size w wr)) (fun _ i _=>8 - (intOf i).toNat)
    case atStart=>exact ⟨0,d,0,by omega,rfl,rfl,by omega,by omega,⟨HD.out.1,by simp [val]⟩,HL.out,HR.out,HZ.out,HO.out,HB.out⟩
    case round =>
     clear HL HR HZ HO HB e1
     obtain ⟨j,e,c,hj,rfl,rfl,hc0,hc1,HI,HL,HR,HZ,HO,HB⟩:=hrel
     by_cases hjl:k + j < 8
     ·have e1:=HL.out.dig k hlt
      rw [<- HX.out] at e1
      have e2:=HR.out.dig j (by omega)
      have e3:=HO.out.dig (k + j) hjl
      have e4:=HO.out.free (1 + (k + j)) (by omega)
      have j0:(0:Int) <= (j:Int):=by omega
      have j1:(j:Int) < 8:=by omega
      have k0:(0:Int) <= (k:Int) + (j:Int):=by omega
      have k1:(k:Int) + (j:Int) < 8:=by omega
      have b2:=HC.out j (by omega)
      have b3:=HI.out.1 (k + j) hjl
      obtain ⟨y,hy⟩:∃ y,y = b j:=⟨_,rfl⟩
      obtain ⟨o,ho⟩:∃ o,o = e (k + j):=⟨_,rfl⟩
      rw [<- hy] at e2 b2
      rw [<- ho] at e3 b3
      have HN:Hid _:=times_next b2 b1 b3 HI.out.1 hjl ⟨hc0,hc1⟩ hy ho HI.out.2
      have hp0:0 <= x * y:=Int.mul_nonneg b1.1 b2.1
      have hp1:x * y <= 16777215 * 16777215:=Int.mul_le_mul (by omega) (by omega) b2.1 (by omega)
      clear hy ho
      go_wp2
      go_region
      all_goals go_wp2
      all_goals go_roundw
      all_goals try (case rel=>obtain ⟨n1,n2,n3,n4⟩:=HN.out;exact ⟨j + 1,put e (k + j) ((o + x * y + c) % 16777216),(o + x * y + c) / 16777216,by omega,by go_num,rfl,n2,n3,⟨n1,n4⟩,(HL.out.otherAt (by omega) _).drew,(HR.out.otherAt (by omega) _).drew,(HZ.out.otherAt (by omega) _).drew,(HO.out.put hjl _).drew,(setAt HB.out (by omega) _).drew⟩)
      all_goals try (case measure=>simp [intOf];omega)
     ·have k8:¬ (k:Int) + (j:Int) < 8:=by omega
      have HM:Hid _:=times_round (e:=e) (c:=c) HD.out.2 (by omega:k + j = 8) (by rw [<- HX.out];exact HI.out.2)
      go_wp2
      go_roundw
      case rel=>exact ⟨k + 1,e,by omega,by go_num,⟨HI.out.1,HM.out⟩,HL.out,HR.out,HZ.out,HO.out,HB.out⟩
      case measure=>simp [intOf];omega
  ·have k8:8 <= (k:Int):=by omega
   have HV:Hid (Digs d/\sv (s != t) d = sv s a * sv t b):=by
    obtain ⟨d1,d2⟩:=HD.out
    rw [(by omega:k = 8)] at d2
    exact ⟨d1,HE.out d d1 d2⟩
   have HO':Hid _:=HO.out.sign (s != t)
   obtain ⟨q0,q1,q2,q3,q4,q5,q6,q7,q8⟩:=HO.out.cells
   have y0:=HO.out.free 0 (by omega)
   obtain ⟨r0,r1,r2,r3,r4,r5,r6,r7,r8⟩:=HZ.out.cells
   obtain ⟨f0,f1,f2,f3,f4,f5,f6,f7,f8⟩:=HZ.out.frees
   have z0:=HL.out.neg
   have z1:=HR.out.neg
   clear HD HA HC HE
   go_wp2
   try simp only [Exit.inBlock,Exit.then]
   refine bodyPost_ret (by simp [results,Tryz.results119,go_sem,r0,r1,r2,r3,r4,r5,r6,r7,r8];try rfl) rfl ?_
   exact ⟨_,d,rfl,HV.out,below_nine (setAt HB.out (by omega) _) (by omega)⟩
end
end Go.Proofs.YtohbjabihdgjhaaGreat
