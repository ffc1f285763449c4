/- Package fx's calls, one by one: what each returns, and that but for the flag it leaves all memory as it was. -/
import Derived.Test.YtablgiflakncfaaGreatBBW7
import Derived.Deep.RegionWith
import Derived.Test.YtablgiflakncfaaGreatBBW5
import Derived.Test.YtablgiflakncfaaGreatBBW1
import Derived.Test.YtablgiflakncfaaGreatBBW0
set_option maxHeartbeats 2000000
set_option maxRecDepth 100000
set_option linter.unusedVariables false
namespace Go.Proofs.YtablgiflakncfaaGreat
section
open Go.RowKit Fx
theorem great_step (zs:List Int) (k:Nat) (h:k < zs.length) (hn:(zs.take k).any great = false):(zs.take (k + 1)).any great = great (zs.getD k 0):=by
 rw [List.take_succ_eq_append_getElem h,List.any_append,hn]
 simp [List.getD_eq_getElem?_getD,List.getElem?_eq_getElem h]
theorem great_any (zs:List Int) (b off cap:Nat) (w:World) (hlen:zs.length <= 4611686018427387904) (hc:∀ k,k < zs.length->w.cell? ⟨b,off + k,none⟩ = some (.int .i64 (zs.getD k 0))) :
  Calls Tryz.prog 81 #[.slice (some ⟨b,off,none⟩) zs.length cap] w fun e w'=>e = .returned (.bool (zs.any great))/\w' = w:=by
 have HC:Hid _:=hc
 clear hc
 go_enter Tryz.func81,Tryz.ntmps81
 go_wp2
 go_loop [7] (fun i=>∃ k:Nat,k <= zs.length/\i = .int .i64 k/\Hid ((zs.take k).any great = false)) (fun i=>zs.length - (intOf i).toNat)
 case atStart=>exact ⟨0,Nat.zero_le _,rfl,by simp [Hid]⟩
 case round =>
  obtain ⟨k,hk,rfl,HG⟩:=hrel
  by_cases hlt:k < zs.length
  ·have hcell:=HC.out k hlt
   have hs:=great_step zs k hlt HG.out
   obtain ⟨z,hz⟩:∃ z,zs.getD k 0 = z:=⟨_,rfl⟩
   rw [hz] at hcell hs
   have HS:Hid _:=hs
   clear hs hz
   by_cases g1:z < -4611686018427387903
   ·have hany:zs.any great = true:=by
     have:(zs.take (k + 1)).any great = true:=by rw [HS.out];simp [great,g1]
     rw [List.any_eq_true] at this ⊢
     obtain ⟨x,hx,hg⟩:=this
     exact ⟨x,List.mem_of_mem_take hx,hg⟩
    go_wp2
    go_ret
    exact ⟨rfl,rfl⟩
   ·by_cases g2:4611686018427387903 < z
    ·have hany:zs.any great = true:=by
      have:(zs.take (k + 1)).any great = true:=by rw [HS.out];simp [great,g2]
      rw [List.any_eq_true] at this ⊢
      obtain ⟨x,hx,hg⟩:=this
      exact ⟨x,List.mem_of_mem_take hx,hg⟩
     go_wp2
     go_ret
     exact ⟨rfl,rfl⟩
    ·have hno:Hid ((zs.take (k + 1)).any great = false):=by
      show _ = false
      rw [HS.out];simp [great];omega
     go_wp2
     go_round
     case rel=>exact ⟨k + 1,by omega,by go_num,hno⟩
     case measure=>simp [intOf];omega
  ·have hany:zs.any great = false:=by
    have:=HG.out
    rwa [List.take_of_length_le (by omega)] at this
   go_wp2
   go_ret
   exact ⟨rfl,rfl⟩
theorem none_any (b off:Nat) (f:Bool) (w:World) (hc:w.cell? ⟨b,off,none⟩ = some (.bool f)) (hf:w.frozen? ⟨b,off,none⟩ = false) :
  Calls Tryz.prog 82 #[.pointer (some ⟨b,off,none⟩)] w fun e w'=>e = .returned (.int .i64 0)/\w' = w.setCell ⟨b,off,none⟩ (.bool true):=by
 go_enter Tryz.func82,Tryz.ntmps82
 go_wp2
 go_ret
 exact ⟨rfl,rfl⟩
theorem great1 (a:Int) (w:World):Calls Tryz.prog 81 #[.slice (some ⟨w.heap.size,0,none⟩) 1 1] (w.alloc (.cells #[.int .i64 a] 3)) fun e w'=>e = .returned (.bool (great a))/\w' = w.alloc (.cells #[.int .i64 a] 3):=by
 have h:=great_any [a] w.heap.size 0 1 (w.alloc (.cells #[.int .i64 a] 3)) (by simp) (fun k hk=>by
  match k,hk with
  | 0,_=>simp)
 simpa using h
theorem great2 (a b:Int) (w:World):Calls Tryz.prog 81 #[.slice (some ⟨w.heap.size,0,none⟩) 2 2] (w.alloc (.cells #[.int .i64 a,.int .i64 b] 3)) fun e w'=>e = .returned (.bool (great a || great b))/\w' = w.alloc (.cells #[.int .i64 a,.int .i64 b] 3):=by
 have h:=great_any [a,b] w.heap.size 0 2 (w.alloc (.cells #[.int .i64 a,.int .i64 b] 3)) (by simp) (fun k hk=>by
  match k,hk with
  | 0,_=>simp
  | 1,_=>simp)
 simpa using h
theorem great3 (a b c:Int) (w:World):Calls Tryz.prog 81 #[.slice (some ⟨w.heap.size,0,none⟩) 3 3] (w.alloc (.cells #[.int .i64 a,.int .i64 b,.int .i64 c] 3)) fun e w'=>e = .returned (.bool (great a || (great b || great c)))/\w' = w.alloc (.cells #[.int .i64 a,.int .i64 b,.int .i64 c] 3):=by
 have h:=great_any [a,b,c] w.heap.size 0 3 (w.alloc (.cells #[.int .i64 a,.int .i64 b,.int .i64 c] 3)) (by simp) (fun k hk=>by
  match k,hk with
  | 0,_=>simp
  | 1,_=>simp
  | 2,_=>simp)
 simpa using h
def mark (p:Addr) (o:Option Int) (w:World):World:=if o.isNone then w.setCell p (.bool true) else w
theorem set_after {w w1:World} {p:Addr} {v:Value} (hb:Below w.heap.size w w1):Below w.heap.size (w.setCell p v) (w1.setCell p v):=by
 refine ⟨hb.os,hb.tape,hb.output,by simpa [World.setCell] using hb.size,fun k hk=>?_⟩
 simp only [World.setCell,Array.getElem?_modify]
 rw [hb.block k hk]
theorem cell_after {w w1:World} {p:Addr} {v:Value} (hb:Below w.heap.size w w1) (hc:w.cell? p = some v):w1.cell? p = some v:=(hb.cell (World.block_lt_of_cell? _ _ hc)).trans hc
theorem frozen_after {w w1:World} {p:Addr} {v:Value} (hb:Below w.heap.size w w1) (hc:w.cell? p = some v) (hf:w.frozen? p = false):w1.frozen? p = false:=(hb.frozen (World.block_lt_of_cell? _ _ hc)).trans hf
theorem new_after (w:World) (o:Obj):Below w.heap.size w (w.alloc o):=(Below.refl _ _).alloc (Nat.le_refl _) _
theorem tell_yes (b off:Nat) (n:Int) (w:World) (hg:great n = false) :
  Calls Tryz.prog 83 #[.pointer (some ⟨b,off,none⟩),.int .i64 n,.bool true] w fun e w'=>e = .returned (.int .i64 n)/\Below w.heap.size w w':=by
 have C1:Hid _:=great1 n w
 rw [hg] at C1
 clear hg
 go_enter Tryz.func83,Tryz.ntmps83
 go_wp2_with (go_at_call 81;refine (Calls.mono C1.out ?_);rintro e w' ⟨rfl,rfl⟩)
 go_ret
 exact ⟨rfl,by go_grown⟩
theorem tell_great (b off:Nat) (f:Bool) (n:Int) (w:World) (hc:w.cell? ⟨b,off,none⟩ = some (.bool f)) (hf:w.frozen? ⟨b,off,none⟩ = false) (hg:great n = true) :
  Calls Tryz.prog 83 #[.pointer (some ⟨b,off,none⟩),.int .i64 n,.bool true] w fun e w'=>e = .returned (.int .i64 0)/\Below w.heap.size (w.setCell ⟨b,off,none⟩ (.bool true)) w':=by
 have C1:=great1 n w
 have hb:=new_after w (.cells #[.int .i64 n] 3)
 have C2:Hid _:=none_any b off f (w.alloc (.cells #[.int .i64 n] 3)) (cell_after hb hc) (frozen_after hb hc hf)
 have HB:Hid _:=set_after (p:=⟨b,off,none⟩) (v:=.bool true) hb
 rw [hg] at C1
 have K1:Hid _:=C1
 clear hg C1 hb hc hf
 go_enter Tryz.func83,Tryz.ntmps83
 go_wp2_with (first | (go_at_call 81;refine (Calls.mono K1.out ?_);rintro e w' ⟨rfl,rfl⟩) | (go_at_call 82;refine (Calls.mono C2.out ?_);rintro e w' ⟨rfl,rfl⟩))
 go_ret
 exact ⟨rfl,HB.out⟩
theorem tell_no (b off:Nat) (f:Bool) (n:Int) (w:World) (hc:w.cell? ⟨b,off,none⟩ = some (.bool f)) (hf:w.frozen? ⟨b,off,none⟩ = false) :
  Calls Tryz.prog 83 #[.pointer (some ⟨b,off,none⟩),.int .i64 n,.bool false] w fun e w'=>e = .returned (.int .i64 0)/\Below w.heap.size (w.setCell ⟨b,off,none⟩ (.bool true)) w':=by
 have C2:Hid _:=none_any b off f w hc hf
 clear hc hf
 go_enter Tryz.func83,Tryz.ntmps83
 go_wp2_with (go_at_call 82;refine (Calls.mono C2.out ?_);rintro e w' ⟨rfl,rfl⟩)
 go_ret
 exact ⟨rfl,Below.refl _ _⟩
theorem tell_any (b off:Nat) (f:Bool) (n:Int) (w:World) (hc:w.cell? ⟨b,off,none⟩ = some (.bool f)) (hf:w.frozen? ⟨b,off,none⟩ = false) :
  Calls Tryz.prog 83 #[.pointer (some ⟨b,off,none⟩),.int .i64 n,.bool true] w fun e w'=>e = .returned (.int .i64 ((Fx.told n).getD 0))/\Below w.heap.size (mark ⟨b,off,none⟩ (Fx.told n) w) w':=by
 cases hg:great n
 ·simpa [Fx.told,hg,mark] using tell_yes b off n w hg
 ·simpa [Fx.told,hg,mark] using tell_great b off f n w hc hf hg
theorem tell_any_none (b off:Nat) (f:Bool) (n:Int) (w:World) (hc:w.cell? ⟨b,off,none⟩ = some (.bool f)) (hf:w.frozen? ⟨b,off,none⟩ = false) :
  Calls Tryz.prog 83 #[.pointer (some ⟨b,off,none⟩),.int .i64 n,.bool false] w fun e w'=>e = .returned (.int .i64 ((none:Option Int).getD 0))/\Below w.heap.size (mark ⟨b,off,none⟩ none w) w':=by
 simpa [mark] using tell_no b off f n w hc hf
theorem mark_after {w w1 w2:World} {p:Addr} {o:Option Int} (h1:Below w.heap.size w w1) (h2:Below w1.heap.size (mark p o w1) w2):Below w.heap.size (mark p o w) w2:=by
 have hs:=h1.size
 cases o with
 | none=>exact (set_after h1).trans (h2.mono hs)
 | some n=>exact h1.trans (h2.mono hs)
theorem add_any (b off:Nat) (f:Bool) (x y:Int) (w:World) (hc:w.cell? ⟨b,off,none⟩ = some (.bool f)) (hf:w.frozen? ⟨b,off,none⟩ = false) :
  Calls Tryz.prog 44 #[.pointer (some ⟨b,off,none⟩),.int .i64 x,.int .i64 y] w fun e w'=>e = .returned (.int .i64 ((add x y).getD 0))/\Below w.heap.size (mark ⟨b,off,none⟩ (add x y) w) w':=by
 have C1:=great2 x y w
 have hb:=new_after w (.cells #[.int .i64 x,.int .i64 y] 3)
 have hc':=cell_after hb hc
 have hf':=frozen_after hb hc hf
 cases hg:(great x || great y)
 ·have hadd:add x y = Fx.told (x + y):=by simp [add,hg]
  rw [hadd]
  rw [hg] at C1
  have hx:-4611686018427387903 <= x/\x <= 4611686018427387903:=(not_great x).1 (by simp at hg;exact hg.1)
  have hy:-4611686018427387903 <= y/\y <= 4611686018427387903:=(not_great y).1 (by simp at hg;exact hg.2)
  have C2:Hid _:=tell_any b off f (x + y) _ hc' hf'
  have K1:Hid _:=C1
  have HB:Hid _:=hb
  clear C1 hb hc hf hc' hf' hg hadd
  go_enter Tryz.func44,Tryz.ntmps44
  go_wp2_with (first | (go_at_call 81;refine (Calls.mono K1.out ?_);rintro e w' ⟨rfl,rfl⟩) | (go_at_call 83;refine (Calls.mono C2.out ?_);rintro e w' ⟨rfl,hb2⟩))
  go_ret
  exact ⟨rfl,mark_after HB.out hb2⟩
 ·have hadd:add x y = none:=by simp only [add,hg,if_true]
  rw [hadd]
  rw [hg] at C1
  have C2:Hid _:=none_any b off f _ hc' hf'
  have K1:Hid _:=C1
  have HB:Hid _:=set_after (p:=⟨b,off,none⟩) (v:=.bool true) hb
  clear C1 hb hc hf hc' hf' hg hadd
  go_enter Tryz.func44,Tryz.ntmps44
  go_wp2_with (first | (go_at_call 81;refine (Calls.mono K1.out ?_);rintro e w' ⟨rfl,rfl⟩) | (go_at_call 82;refine (Calls.mono C2.out ?_);rintro e w' ⟨rfl,rfl⟩))
  go_ret
  exact ⟨rfl,HB.out⟩
end
section
open Go.RowKit Fx
theorem below_step {w w1 w2:World} (h1:Below w.heap.size w w1) (h2:Below w1.heap.size w1 w2):Below w.heap.size w w2:=h1.trans (h2.mono h1.size)
theorem small_prod {x y:Int} (hx:-4611686018427387903 <= x/\x <= 4611686018427387903) (hy:-4611686018427387903 <= y/\y <= 4611686018427387903):-21267647932558653966460912964485513216 < x * y/\x * y < 21267647932558653966460912964485513216:=by
 have a:(x * y).natAbs <= 4611686018427387903 * 4611686018427387903:=by rw [Int.natAbs_mul];exact Nat.mul_le_mul (by omega) (by omega)
 omega
theorem ratio_any (b off:Nat) (f:Bool) (x y z:Int) (w:World) (hc:w.cell? ⟨b,off,none⟩ = some (.bool f)) (hf:w.frozen? ⟨b,off,none⟩ = false) :
  Calls Tryz.prog 45 #[.pointer (some ⟨b,off,none⟩),.int .i64 x,.int .i64 y,.int .i64 z] w fun e w'=>e = .returned (.int .i64 ((ratio x y z).getD 0))/\Below w.heap.size (mark ⟨b,off,none⟩ (ratio x y z) w) w':=by
 by_cases hz:z = 0
 ·have hr:ratio x y z = none:=by simp only [ratio,hz,if_true]
  rw [hr]
  have C2:Hid _:=none_any b off f _ hc hf
  have hz':(z == 0) = true:=by simp [hz]
  clear hc hf hz hr
  go_enter Tryz.func45,Tryz.ntmps45
  go_wp2_with (first | (go_at_call 82;refine (Calls.mono C2.out ?_);rintro e w' ⟨rfl,rfl⟩))
  go_ret
  exact ⟨rfl,Below.refl _ _⟩
 have hz':(z == 0) = false:=by simp [hz]
 have C1:=great3 x y z w
 have hb:=new_after w (.cells #[.int .i64 x,.int .i64 y,.int .i64 z] 3)
 have hc':=cell_after hb hc
 have hf':=frozen_after hb hc hf
 cases hg:(great x || (great y || great z))
 ·have hg3:great x = false/\great y = false/\great z = false:=by simpa using hg
  have hx:-4611686018427387903 <= x/\x <= 4611686018427387903:=(not_great x).1 hg3.1
  have hy:-4611686018427387903 <= y/\y <= 4611686018427387903:=(not_great y).1 hg3.2.1
  have hzz:-4611686018427387903 <= z/\z <= 4611686018427387903:=(not_great z).1 hg3.2.2
  rw [hg] at C1
  have K1:Hid _:=C1
  have HB:Hid _:=hb
  have HC:Hid _:=hc
  have HF:Hid _:=hf
  have hp:=small_prod hx hy
  have C3:Hid _:=fun w=>product_any x y w (by omega) (by omega) (by omega) (by omega)
  obtain ⟨Z,hZ⟩:∃ Z,(0 <= x * y/\Z = x * y) \/ (x * y < 0/\Z = -(x * y)):=by
   by_cases h:0 <= x * y
   ·exact ⟨_,Or.inl ⟨h,rfl⟩⟩
   ·exact ⟨_,Or.inr ⟨by omega,rfl⟩⟩
  obtain ⟨d,hd⟩:∃ d,(0 < z/\d = z) \/ (z < 0/\d = -z):=by
   by_cases h:0 < z
   ·exact ⟨_,Or.inl ⟨h,rfl⟩⟩
   ·exact ⟨_,Or.inr ⟨by omega,rfl⟩⟩
  by_cases hfit:Z / d <= 4611686018427387903
  ·have hr:ratio x y z = Fx.told (fl (x * y) z):=by simp only [ratio,hg,hz];rfl
   rw [hr]
   have K4:Hid _:=fun w=>by_any (x * y) z Z d w (by omega) (by omega) hZ hd (by omega) hfit
   clear C1 hb hc hf hc' hf' hg hr hfit hp hZ hd hg3 hz
   go_enter Tryz.func45,Tryz.ntmps45
   go_wp2_with (first
    | (go_at_call 81;refine (Calls.mono K1.out ?_);rintro e w' ⟨rfl,rfl⟩)
    | (go_at_call 84;refine (Calls.mono (C3.out _) ?_);rintro e w1 ⟨rfl,hb1⟩;have B1:Hid _:=below_step HB.out hb1)
    | (go_at_call 85;refine (Calls.mono (K4.out _) ?_);rintro e w2 ⟨rfl,hb2⟩;have B2:Hid _:=below_step B1.out hb2)
    | (go_at_call 83;refine (Calls.mono (tell_any b off f _ _ (cell_after B2.out HC.out) (frozen_after B2.out HC.out HF.out)) ?_);rintro e w3 ⟨rfl,hb3⟩))
   go_ret
   exact ⟨rfl,mark_after B2.out hb3⟩
  ·have hr:ratio x y z = none:=by
    have hgr:great (fl (x * y) z) = true:=by
     rw [great_iff]
     have hd0:0 < d:=by omega
     have hn:=neg_div (T:=Z) hd0
     unfold fl
     rcases hZ with ⟨a,rfl⟩ | ⟨a,e⟩ <;> rcases hd with ⟨g,rfl⟩ | ⟨g,rfl⟩
     ·rw [if_neg (by omega)];omega
     ·rw [if_pos (by omega),hn];split <;> omega
     ·rw [if_neg (by omega),show x * y = -Z by omega,hn];split <;> omega
     ·rw [if_pos (by omega),<- e];omega
    simp only [ratio,hz,hg,Fx.told,hgr];rfl
   rw [hr]
   have K4:Hid _:=fun w=>by_none (x * y) z Z d w (by omega) (by omega) hZ hd (by omega) (by omega)
   clear C1 hb hc hf hc' hf' hg hr hfit hp hZ hd hg3 hz
   go_enter Tryz.func45,Tryz.ntmps45
   go_wp2_with (first
    | (go_at_call 81;refine (Calls.mono K1.out ?_);rintro e w' ⟨rfl,rfl⟩)
    | (go_at_call 84;refine (Calls.mono (C3.out _) ?_);rintro e w1 ⟨rfl,hb1⟩;have B1:Hid _:=below_step HB.out hb1)
    | (go_at_call 85;refine (Calls.mono (K4.out _) ?_);rintro e w2 ⟨rfl,hb2⟩;have B2:Hid _:=below_step B1.out hb2)
    | (go_at_call 83;refine (Calls.mono (tell_any_none b off f _ _ (cell_after B2.out HC.out) (frozen_after B2.out HC.out HF.out)) ?_);rintro e w3 ⟨rfl,hb3⟩))
   go_ret
   exact ⟨rfl,mark_after B2.out hb3⟩
 ·have hr:ratio x y z = none:=by simp only [ratio,hz,hg,if_true,if_false]
  rw [hr]
  rw [hg] at C1
  have C2:Hid _:=none_any b off f _ hc' hf'
  have K1:Hid _:=C1
  have HB:Hid _:=set_after (p:=⟨b,off,none⟩) (v:=.bool true) hb
  clear C1 hb hc hf hc' hf' hg hr hz
  go_enter Tryz.func45,Tryz.ntmps45
  go_wp2_with (first | (go_at_call 81;refine (Calls.mono K1.out ?_);rintro e w' ⟨rfl,rfl⟩) | (go_at_call 82;refine (Calls.mono C2.out ?_);rintro e w' ⟨rfl,rfl⟩))
  go_ret
  exact ⟨rfl,HB.out⟩
theorem sub_any (b off:Nat) (f:Bool) (x y:Int) (w:World) (hc:w.cell? ⟨b,off,none⟩ = some (.bool f)) (hf:w.frozen? ⟨b,off,none⟩ = false) :
  Calls Tryz.prog 46 #[.pointer (some ⟨b,off,none⟩),.int .i64 x,.int .i64 y] w fun e w'=>e = .returned (.int .i64 ((sub x y).getD 0))/\Below w.heap.size (mark ⟨b,off,none⟩ (sub x y) w) w':=by
 have C1:=great2 x y w
 have hb:=new_after w (.cells #[.int .i64 x,.int .i64 y] 3)
 have hc':=cell_after hb hc
 have hf':=frozen_after hb hc hf
 cases hg:(great x || great y)
 ·have hsub:sub x y = Fx.told (x - y):=by simp [sub,hg]
  rw [hsub]
  rw [hg] at C1
  have hx:-4611686018427387903 <= x/\x <= 4611686018427387903:=(not_great x).1 (by simp at hg;exact hg.1)
  have hy:-4611686018427387903 <= y/\y <= 4611686018427387903:=(not_great y).1 (by simp at hg;exact hg.2)
  have C2:Hid _:=tell_any b off f (x - y) _ hc' hf'
  have K1:Hid _:=C1
  have HB:Hid _:=hb
  clear C1 hb hc hf hc' hf' hg hsub
  go_enter Tryz.func46,Tryz.ntmps46
  go_wp2_with (first | (go_at_call 81;refine (Calls.mono K1.out ?_);rintro e w' ⟨rfl,rfl⟩) | (go_at_call 83;refine (Calls.mono C2.out ?_);rintro e w' ⟨rfl,hb2⟩))
  go_ret
  exact ⟨rfl,mark_after HB.out hb2⟩
 ·have hsub:sub x y = none:=by simp only [sub,hg,if_true]
  rw [hsub]
  rw [hg] at C1
  have C2:Hid _:=none_any b off f _ hc' hf'
  have K1:Hid _:=C1
  have HB:Hid _:=set_after (p:=⟨b,off,none⟩) (v:=.bool true) hb
  clear C1 hb hc hf hc' hf' hg hsub
  go_enter Tryz.func46,Tryz.ntmps46
  go_wp2_with (first | (go_at_call 81;refine (Calls.mono K1.out ?_);rintro e w' ⟨rfl,rfl⟩) | (go_at_call 82;refine (Calls.mono C2.out ?_);rintro e w' ⟨rfl,rfl⟩))
  go_ret
  exact ⟨rfl,HB.out⟩
end
section
open Go.RowKit Fx
def Step (f:Bool) (o:Option Int) (v:Int) (g:Bool):Prop:=v = o.getD 0/\g = (f || o.isNone)
structure After (p:Addr) (g:Bool) (W W':World):Prop where
 cell:W'.cell? p = some (.bool g)
 frozen:W'.frozen? p = false
 size:W.heap.size <= W'.heap.size
 other:∀ q:Addr,q.block < W.heap.size->q.block ≠ p.block->W'.cell? q = W.cell? q/\W'.frozen? q = W.frozen? q
 below:∀ (B:Nat) (w:World),Below B w W->B <= p.block->B <= W.heap.size->Below B w W'
 kept:W'.os = W.os/\W'.tape = W.tape/\W'.output = W.output/\∀ k,k < W.heap.size->k ≠ p.block->W'.heap[k]? = W.heap[k]?
 beside:p.block < W.heap.size->∀ o,o ≠ p.off->W'.cell? ⟨p.block,o,none⟩ = W.cell? ⟨p.block,o,none⟩/\W'.frozen? ⟨p.block,o,none⟩ = W.frozen? ⟨p.block,o,none⟩
theorem After.cellOf {p q:Addr} {g:Bool} {W W':World} (h:After p g W W') {v:Value} (hq:W.cell? q = some v) (hne:q.block ≠ p.block):W'.cell? q = some v:=(h.other q (World.block_lt_of_cell? _ _ hq) hne).1.trans hq
theorem After.frozenOf {p q:Addr} {g:Bool} {W W':World} (h:After p g W W') {v:Value} (hq:W.cell? q = some v) (hf:W.frozen? q = false) (hne:q.block ≠ p.block):W'.frozen? q = false:=(h.other q (World.block_lt_of_cell? _ _ hq) hne).2.trans hf
theorem After.on {w W W':World} {p:Addr} {g:Bool} (h:After p g W W') (hb:Below w.heap.size w W) (hp:w.heap.size <= p.block):Below w.heap.size w W':=h.below _ _ hb hp hb.size
theorem after_of {b off:Nat} {f:Bool} {o:Option Int} {W W':World} (hb:Below W.heap.size (mark ⟨b,off,none⟩ o W) W') (hc:W.cell? ⟨b,off,none⟩ = some (.bool f)) (hf:W.frozen? ⟨b,off,none⟩ = false) :
  After ⟨b,off,none⟩ (f || o.isNone) W W':=by
 have hlt:=World.block_lt_of_cell? _ _ hc
 cases o with
 | some n =>
  have hb:Below W.heap.size W W':=hb
  refine ⟨by rw [hb.cell hlt,hc];simp,by rw [hb.frozen hlt,hf],hb.size,fun q hq _=>⟨hb.cell hq,hb.frozen hq⟩,fun B w h _ hB=>h.trans (hb.mono hB),⟨hb.os,hb.tape,hb.output,fun k hk _=>hb.block k hk⟩,fun hp o _=>⟨hb.cell hp,hb.frozen hp⟩⟩
 | none =>
  have hb:Below W.heap.size (W.setCell ⟨b,off,none⟩ (.bool true)) W':=hb
  have hs:=hb.size
  simp [World.setCell] at hs
  refine ⟨?_,?_,by simpa using hs,fun q hq hne=>⟨?_,?_⟩,fun B w h hp hB=>(h.setCell hp _).trans (hb.mono hB),⟨hb.os,hb.tape,hb.output,fun k hk hne=>(hb.block k hk).trans (Below.heap_setCell _ _ _ _ hne)⟩,fun hp o ho=>⟨?_,?_⟩⟩
  ·rw [hb.cell hlt];simp [go_sem,hc]
  ·rw [hb.frozen hlt];simp [go_sem,hf]
  ·rw [hb.cell hq];exact World.cell?_of_block (w:=W) (Below.heap_setCell _ _ _ _ hne)
  ·rw [hb.frozen hq];exact World.frozen?_of_block (w:=W) (Below.heap_setCell _ _ _ _ hne)
  ·exact (hb.cell (p:=⟨b,o,none⟩) hlt).trans (World.cell?_setCell_other _ _ _ _ (fun e=>ho (Addr.mk.inj e).2.1.symm))
  ·exact (hb.frozen (p:=⟨b,o,none⟩) hlt).trans (by simp [go_sem])
end
section
open Go.RowKit Go.Shelf Fx
def maxI (n a:Int):Int:=if a > n then a else n
def minI (n a:Int):Int:=if a < n then a else n
end
section
open Go.RowKit Go.Shelf
def pickZ (c n:Int):Int:=(if c < 0 then -(c + 1) else c) % n
theorem pickZ_lo (c:Int) {n:Int} (hn:0 < n):0 <= pickZ c n:=Int.emod_nonneg _ (by omega)
theorem pickZ_hi (c:Int) {n:Int} (hn:0 < n):pickZ c n < n:=Int.emod_lt_of_pos _ hn
theorem pick_any (c n:Int) (w:World) (hc:-9223372036854775808 <= c/\c <= 9223372036854775807) (hn:0 < n) (hn':n <= 9223372036854775807) :
  Calls Tryz.prog 93 #[.int .i64 c,.int .i64 n] w fun e w'=>e = .returned (.int .i64 (pickZ c n))/\w' = w:=by
 unfold pickZ
 by_cases h:c < 0
 ·have hb:0 <= -(c + 1):=by omega
  have hb':-(c + 1) <= 9223372036854775807:=by omega
  have hz:(n == 0) = false:=beq_eq_false_iff_ne.2 (by omega)
  rw [if_pos h]
  go_enter Tryz.func93,Tryz.ntmps93
  go_wp2
  go_ret
  have e:(c + 1).tmod n = -(-(c + 1) % n):=by
   rw [<- Int.tmod_eq_emod_of_nonneg hb,Int.neg_tmod,Int.neg_neg]
  exact ⟨by rw [e,Int.neg_neg];rfl,rfl⟩
 ·have hz:(n == 0) = false:=beq_eq_false_iff_ne.2 (by omega)
  rw [if_neg h]
  go_enter Tryz.func93,Tryz.ntmps93
  go_wp2
  go_ret
  exact ⟨rfl,rfl⟩
theorem pick_below (c n:Int) (w:World) (hc:-9223372036854775808 <= c/\c <= 9223372036854775807) (hn:0 < n) (hn':n <= 9223372036854775807) :
  Calls Tryz.prog 93 #[.int .i64 c,.int .i64 n] w fun e w'=>e = .returned (.int .i64 (pickZ c n))/\Below w.heap.size w w':=
 Calls.mono (pick_any c n w hc hn hn') (by rintro e w2 ⟨rfl,rfl⟩;exact ⟨rfl,Below.refl _ _⟩)
theorem arr6 {cs:Array Value} (h:cs.size = 6):∃ a b c d e f,cs = #[a,b,c,d,e,f]:=by
 obtain ⟨l⟩:=cs
 match l,h with
 | [a,b,c,d,e,f],_=>exact ⟨a,b,c,d,e,f,rfl⟩
end
section
open Go.RowKit Go.Shelf
theorem part_any (n:Int) (w:World) (hn:-9223372036854775808 <= n/\n <= 9223372036854775807) :
  Calls Tryz.prog 94 #[.int .i64 n,.int .i64 65536] w fun e w'=>e = .returned (.int .i64 (pickZ n 131073 - 65536))/\w' = w:=by
 have HP:Hid _:=pick_any n 131073 w hn (by decide) (by decide)
 have l:=pickZ_lo n (n:=131073) (by decide)
 have u:=pickZ_hi n (n:=131073) (by decide)
 generalize pickZ n 131073 = q at *
 have e1:IntKind.i64.wrap (q - 65536) = q - 65536:=by rw [IntKind.wrap_i64];omega
 clear hn l u
 go_enter Tryz.func94,Tryz.ntmps94
 go_wp2_with (fail)
 refine Calls.mono HP.out ?_
 rintro e w' ⟨rfl,rfl⟩
 go_wp2_with (fail)
 go_ret
 exact ⟨rfl,rfl⟩
def lowD (L:List Pt) (n a:Pt) (k:Nat):Int:=(L.take k).foldl (fun s p=>minI s (n.dot (p.sub a))) 0
def highD (L:List Pt) (n a:Pt) (k:Nat):Int:=(L.take k).foldl (fun s p=>maxI s (n.dot (p.sub a))) 0
theorem lowD_next (L:List Pt) (n a:Pt) (k:Nat) (hk:k < L.length):lowD L n a (k + 1) = minI (lowD L n a k) (n.dot ((pt L k).sub a)):=by unfold lowD;rw [take_pt hk,List.foldl_append];rfl
theorem highD_next (L:List Pt) (n a:Pt) (k:Nat) (hk:k < L.length):highD L n a (k + 1) = maxI (highD L n a k) (n.dot ((pt L k).sub a)):=by unfold highD;rw [take_pt hk,List.foldl_append];rfl
def sideZ (L:List Pt) (n a:Pt):Int:=if highD L n a L.length <= 0 then 1 else if 0 <= lowD L n a L.length then -1 else 0
theorem side_any (v:Value) (Ls:List Pt) (n pa:Pt) (w0:World) (hv:Lies w0 v Ls) (hl:Ls.length <= 100) (hin:∀ p ∈ Ls,p.inB 65536 = true) (hain:pa.inB 65536 = true) (hnin:n.inB 34359738368 = true) :
  Calls Tryz.prog 130 #[v,n.v,pa.v] w0 fun e W=>e = .returned (.int .i64 (sideZ Ls n pa))/\Below w0.heap.size w0 W:=by
 obtain ⟨o,c,rfl,hlc,hcm,hcell⟩:=hv.form
 have HC:Hid _:=hcell
 have HIN:Hid _:=hin
 clear hcell hv hin
 have HS:Hid (sideZ Ls n pa = if highD Ls n pa Ls.length <= 0 then 1 else if 0 <= lowD Ls n pa Ls.length then -1 else 0):=rfl
 generalize sideZ Ls n pa = R at *
 have B1:Hid (Box3 ((w0.alloc (.cells #[.int .i64 n.x,.int .i64 n.y,.int .i64 n.z] 45)).alloc (.cells #[.int .i64 pa.x,.int .i64 pa.y,.int .i64 pa.z] 45)) w0.heap.size n):=(Box3.new w0 n.x n.y n.z _).step (n_after _ _)
 have B2:Hid (Box3 ((w0.alloc (.cells #[.int .i64 n.x,.int .i64 n.y,.int .i64 n.z] 45)).alloc (.cells #[.int .i64 pa.x,.int .i64 pa.y,.int .i64 pa.z] 45)) (w0.heap.size + 1) pa):=by have:=Box3.new (w0.alloc (.cells #[.int .i64 n.x,.int .i64 n.y,.int .i64 n.z] 45)) pa.x pa.y pa.z 45;rwa [World.size_alloc] at this
 have hB:Hid (Below w0.heap.size w0 ((w0.alloc (.cells #[.int .i64 n.x,.int .i64 n.y,.int .i64 n.z] 45)).alloc (.cells #[.int .i64 pa.x,.int .i64 pa.y,.int .i64 pa.z] 45))):=b_step (n_after w0 _) (n_after _ _)
 unfold Pt.v
 go_enter Tryz.func130,Tryz.ntmps130
 go_wp2_with (fail)
 obtain ⟨V,hV⟩:∃ V:World,V = (w0.alloc (.cells #[.int .i64 n.x,.int .i64 n.y,.int .i64 n.z] 45)).alloc (.cells #[.int .i64 pa.x,.int .i64 pa.y,.int .i64 pa.z] 45):=⟨_,rfl⟩
 obtain ⟨ba,hba⟩:∃ ba,ba = w0.heap.size + 1:=⟨_,rfl⟩
 obtain ⟨bn,hbn⟩:∃ bn,bn = w0.heap.size:=⟨_,rfl⟩
 rw [<- hV] at B1 B2 hB ⊢
 rw [<- hba] at B2 ⊢
 rw [<- hbn] at B1 ⊢
 clear hV hba hbn
 go_loopg [7,8,9] Ls.length (fun gm s7 s8 s9 wr=>∃ k:Nat,s7 = .int .i64 (lowD Ls n pa k)/\s8 = .int .i64 (highD Ls n pa k)/\s9 = .int .i64 (k:Int)/\k <= Ls.length/\gm = Ls.length - k/\Hid (Below V.heap.size V wr))
 case atStart=>exact ⟨0,rfl,rfl,rfl,Nat.zero_le _,rfl,Below.refl _ _⟩
 case round =>
  obtain ⟨k,rfl,rfl,rfl,hk,hgm,HB⟩:=hrel
  have HG:Hid _:=hgm
  clear hgm
  by_cases hkt:k < Ls.length
  ·obtain ⟨g,off,rfl,x0,x1,x2⟩:=HC.out k hkt
   have x0:=c_after HB.out (c_after hB.out x0)
   have x1:=c_after HB.out (c_after hB.out x1)
   have x2:=c_after HB.out (c_after hB.out x2)
   have hmin:=HIN.out _ (pt_mem hkt)
   have HN1:Hid _:=lowD_next Ls n pa k hkt
   have HN2:Hid _:=highD_next Ls n pa k hkt
   generalize pt Ls k = mo at *
   generalize lowD Ls n pa k = lo at *
   generalize highD Ls n pa k = hi at *
   have L1:Hid _:=fun w'=>minus_any mo pa w' (inB_mono hmin (by decide)) (inB_mono hain (by decide))
   have L2:Hid _:=fun w'=>rdot_any n (mo.sub pa) w' hnin (sub_in hmin hain)
   unfold Pt.v at L1 L2
   obtain ⟨q0,q1,q2,_,_,_⟩:=B1.out.step HB.out
   obtain ⟨p0,p1,p2,_,_,_⟩:=B2.out.step HB.out
   have hkz:(k:Int) < (Ls.length:Int):=by omega
   unfold minI at HN1
   unfold maxI at HN2
   obtain ⟨nl,e1⟩:∃ v,(if n.dot (mo.sub pa) < lo then n.dot (mo.sub pa) else lo) = v:=⟨_,rfl⟩
   obtain ⟨nh,e2⟩:∃ v,(if n.dot (mo.sub pa) > hi then n.dot (mo.sub pa) else hi) = v:=⟨_,rfl⟩
   rw [e1] at HN1
   rw [e2] at HN2
   go_upto_region 6 with fail
   refine RV.rs [.some (.agg #[.int .i64 n.x,.int .i64 n.y,.int .i64 n.z]),.some (.slice (some ⟨g,off,none⟩) Ls.length c),.some (.int .i64 ((k:Int))),.some (.pointer (some ⟨g,off + k * 3,none⟩)),.some (.agg #[.int .i64 mo.x,.int .i64 mo.y,.int .i64 mo.z]),.some (.agg #[.int .i64 pa.x,.int .i64 pa.y,.int .i64 pa.z]),.some (.agg #[.int .i64 ((mo.sub pa).x),.int .i64 ((mo.sub pa).y),.int .i64 ((mo.sub pa).z)]),.some (.int .i64 (n.dot (mo.sub pa))),.some (.int .i64 (n.dot (mo.sub pa)))] [18,19,20,21,22,23,24,25,11] [(0,.slice (some ⟨g,off,none⟩) Ls.length c),(4,.pointer (some ⟨bn,0,none⟩)),(5,.pointer (some ⟨ba,0,none⟩)),(9,.int .i64 ((k:Int)))] (fun γ L w9=>Below wr.heap.size wr w9) ⟨rfl,rfl,rfl,rfl,trivial⟩ ?_ ?_ ?_
   ·exact (Below.refl _ wr).drew
   ·intro D WA Z hD hWA hZ T
    simp only [RV.Outs,RV.Slots,Nat.reduceAdd] at T
    iterate 6 first
     | (refine RV.cc _ (RV.pu T (fun γ v L w hl h=>h) (fun γ L a w hH hl h9 k9=>⟨_,?_,rfl⟩)) ?_;· simp [execOp,go_sem,h9])
     | (refine RV.cc _ (RV.pu T (fun γ v L w hl h=>h) (fun γ L a w hH hl h9 k9=>⟨_,?_,rfl⟩)) ?_;· simp [Region.binds] at k9;simp [execOp,go_sem,h9,k9,hkz])
     | (refine RV.cc _ (RV.pu T (fun γ v L w hl h=>h) (fun γ L a w hH hl h9 k9=>⟨_,?_,rfl⟩)) ?_;· have hB9:=hH.glob;have v0:=c_after hB9 x0;have v1:=c_after hB9 x1;have v2:=c_after hB9 x2;simp [Region.binds] at k9;simp [execOp,go_sem,h9,k9,v0,v1,v2])
     | (refine RV.cc _ (RV.pu T (fun γ v L w hl h=>h) (fun γ L a w hH hl h9 k9=>⟨_,?_,rfl⟩)) ?_;· have hB9:=hH.glob;have q0:=c_after hB9 q0;have q1:=c_after hB9 q1;have q2:=c_after hB9 q2;have q3:=c_after hB9 p0;have q4:=c_after hB9 p1;have q5:=c_after hB9 p2;simp [execOp,go_sem,h9,q0,q1,q2,q3,q4,q5])
    refine RV.cc _ (RV.dc (fun γ L a w hH hl hA=>by have h9:=T γ L a w hH;have k9:=hA;simp [Region.binds] at k9;have hB9:=hH.glob;exact ⟨18,#[.agg #[.int .i64 mo.x,.int .i64 mo.y,.int .i64 mo.z],.agg #[.int .i64 pa.x,.int .i64 pa.y,.int .i64 pa.z]],by simp [go_sem,h9,k9],Calls.mono (L1.out w) (by rintro e w2 ⟨rfl,hb⟩;exact ⟨_,rfl,rfl,fun j v _ h=>h.keep _,hB9.trans (hb.mono hB9.size)⟩)⟩)) ?_
    refine RV.cc _ (RV.dc (fun γ L a w hH hl hA=>by have h9:=T γ L a w hH;have k9:=hA;simp [Region.binds] at k9;have hB9:=hH.glob;exact ⟨17,#[.agg #[.int .i64 n.x,.int .i64 n.y,.int .i64 n.z],.agg #[.int .i64 ((mo.sub pa).x),.int .i64 ((mo.sub pa).y),.int .i64 ((mo.sub pa).z)]],by simp [go_sem,h9,k9],Calls.mono (L2.out w) (by rintro e w2 ⟨rfl,hb⟩;exact ⟨_,rfl,rfl,fun j v _ h=>h.keep _,hB9.trans (hb.mono hB9.size)⟩)⟩)) ?_
    (refine RV.cc _ (RV.pu T (fun γ v L w hl h=>h) (fun γ L a w hH hl h9 k9=>⟨_,?_,rfl⟩)) ?_;· simp [Region.binds] at k9;simp [execOp,go_sem,h9,k9])
    exact RV.AllDo.nil
   ·intro γ w5 L9 hL hI9 hG9
    have hb8:=hG9
    clear hL hI9 hG9
    simp only [RV.putL,Act.put,List.setIfInBounds_toArray,List.set_cons_zero,List.set_cons_succ]
    have HB7:Hid _:=b_step HB.out hb8
    clear hb8 L1 L2 q0 q1 q2 p0 p1 p2 x0 x1 x2
    go_wp2_with (fail)
    go_roundg (Ls.length - (k + 1))
    case measure=>have:=HG.out;omega
    case rel=>exact ⟨k + 1,by rw [HN1.out],by rw [HN2.out],by go_num,by omega,rfl,HB7⟩
  ·have e:k = Ls.length:=by omega
   subst e
   generalize lowD Ls n pa Ls.length = lo at *
   generalize highD Ls n pa Ls.length = hi at *
   by_cases h1:hi <= 0
   ·have e:R = 1:=by rw [HS.out,if_pos h1]
    subst e
    clear HS
    go_wp2_with (fail)
    go_ret
    exact ⟨rfl,b_step hB.out HB.out⟩
   ·by_cases h2:0 <= lo
    ·have e:R = -1:=by rw [HS.out,if_neg h1,if_pos h2]
     subst e
     clear HS
     go_wp2_with (fail)
     go_ret
     exact ⟨rfl,b_step hB.out HB.out⟩
    ·have e:R = 0:=by rw [HS.out,if_neg h1,if_neg h2]
     subst e
     clear HS
     go_wp2_with (fail)
     go_ret
     exact ⟨rfl,b_step hB.out HB.out⟩
end
end Go.Proofs.YtablgiflakncfaaGreat
