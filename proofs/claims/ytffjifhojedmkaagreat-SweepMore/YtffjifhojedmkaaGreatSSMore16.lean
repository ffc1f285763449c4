/- The document's own core of a shape. -/
import Derived.Test.YtffjifhojedmkaaGreatSSMore15
import Derived.Test.YtffjifhojedmkaaGreatSSMore0
import Derived.Test.YtffjifhojedmkaaGreatSSMore12
import Derived.Test.YtffjifhojedmkaaGreatSSMore14
import Derived.Test.YtffjifhojedmkaaGreatSSMore1
set_option linter.unusedVariables false
namespace Go.Proofs.YtffjifhojedmkaaGreat
section
open Go.RowKit Go.Shelf
structure KS (w0 W : World) (ba br b5 : Nat) (sh : List Value) (r : Value) (u : Value) (M : List Pt) : Prop where
 c1 : Cells W ba sh
 c2 : Cells W br [.slice none 0 0, .slice none 0 0, .slice none 0 0, .int .i64 0]
 c3 : Cells W b5 [u, .slice none 0 0, .slice none 0 0, r]
 row : W.ownsRow w0.heap.size 23 3 u M.length (fl3 M)
 na : u.ownBlock ≠ some ba
 ns : u.ownBlock ≠ some br
 n3 : u.ownBlock ≠ some b5
 below : Below w0.heap.size w0 W
 l3 : w0.heap.size <= b5
 d1 : ba ≠ b5
 d2 : br ≠ b5
 r0 : ∃ v, sh[0]? = some v
theorem KS.app {w0 V W : World} {ba br b5 : Nat} {sh : List Value} {r u u' : Value} {M N : List Pt} (h : KS w0 V ba br b5 sh r u M) (hr : W.ownsRow w0.heap.size 23 3 u' N.length (fl3 N)) (hg : Grew V W u u') : KS w0 (W.setCell ⟨b5, 0, none⟩ u') ba br b5 sh r u' N := by
 obtain ⟨v0, e0⟩ := h.r0
 have la : ba < V.heap.size := World.block_lt_of_cell? _ _ (h.c1 0 _ e0).1
 have ls : br < V.heap.size := World.block_lt_of_cell? _ _ (h.c2 0 _ rfl).1
 have l3 : b5 < V.heap.size := World.block_lt_of_cell? _ _ (h.c3 0 _ rfl).1
 have off : ∀ b, b < V.heap.size -> u.ownBlock ≠ some b -> u'.ownBlock ≠ some b := fun b hb hne e => by
  rcases hg.same with s | ⟨k, s, hk⟩
  ·exact hne (s ▸ e)
  ·rw [s] at e; cases e; omega
 exact ⟨(h.c1.grown hg.grown h.na).put h.d1 _ _, (h.c2.grown hg.grown h.ns).put h.d2 _ _, (h.c3.grown hg.grown h.n3).set 0 u' (by simp), ownsRow_setCell_other hr (off _ l3 h.n3) _, off _ la h.na, off _ ls h.ns, off _ l3 h.n3, (h.below.grown hg.grown h.below.size (fun k e => (h.row.lt k e).1)).setCell h.l3 _, h.l3, h.d1, h.d2, h.r0⟩
theorem KS.step {w0 V W : World} {ba br b5 : Nat} {sh : List Value} {r u : Value} {M : List Pt} (h : KS w0 V ba br b5 sh r u M) (hb : Below V.heap.size V W) : KS w0 W ba br b5 sh r u M :=
 ⟨h.c1.step hb, h.c2.step hb, h.c3.step hb, own_below h.row hb, h.na, h.ns, h.n3, b_step h.below hb, h.l3, h.d1, h.d2, h.r0⟩
def lit9 : Obj := .cells #[.int .i64 1, .int .i64 0, .int .i64 0, .int .i64 0, .int .i64 1, .int .i64 0, .int .i64 0, .int .i64 0, .int .i64 1] 23
theorem own_lit9 (w : World) {base : Nat} (hb : base <= w.heap.size) : (w.alloc lit9).ownsRow base 23 3 (.slice (some ⟨w.heap.size, 0, none⟩) 3 3) straightP.length (fl3 straightP) :=
 World.ownsRow_lit (e := 23) (size := 3) w #[.int .i64 1, .int .i64 0, .int .i64 0, .int .i64 0, .int .i64 1, .int .i64 0, .int .i64 0, .int .i64 0, .int .i64 1] 3 hb (by unfold maxLen; omega) rfl
theorem KS.brick {w0 W : World} {ba br b5 : Nat} {sh : List Value} {r u va ve : Value} {M : List Pt} (h : KS w0 W ba br b5 sh r u M) (hbr : w0.heap.size <= br) (ea : va = .slice (some ⟨W.heap.size, 0, none⟩) 3 3) (ee : ve = .slice (some ⟨W.heap.size + 1, 0, none⟩) 3 3) :
  Three w0 ((((W.setCell ⟨b5, 1, none⟩ va).setCell ⟨b5, 2, none⟩ ve).alloc lit9).alloc lit9) u va ve M straightP straightP /\ Cells ((((W.setCell ⟨b5, 1, none⟩ va).setCell ⟨b5, 2, none⟩ ve).alloc lit9).alloc lit9) b5 [u, va, ve, r] /\ Cells ((((W.setCell ⟨b5, 1, none⟩ va).setCell ⟨b5, 2, none⟩ ve).alloc lit9).alloc lit9) br [.slice none 0 0, .slice none 0 0, .slice none 0 0, .int .i64 0] /\ va.ownBlock ≠ some br /\ ve.ownBlock ≠ some br := by
 have l5 : b5 < W.heap.size := World.block_lt_of_cell? _ _ (h.c3 0 _ rfl).1
 have lr : br < W.heap.size := World.block_lt_of_cell? _ _ (h.c2 0 _ rfl).1
 obtain ⟨W1, hW1⟩ : ∃ W1, W1 = (W.setCell ⟨b5, 1, none⟩ va).setCell ⟨b5, 2, none⟩ ve := ⟨_, rfl⟩
 have sz : W1.heap.size = W.heap.size := by rw [hW1]; simp [World.setCell]
 have hs := h.below.size
 have hb1 : Below w0.heap.size w0 W1 := by rw [hW1]; exact (h.below.setCell h.l3 _).setCell h.l3 _
 have hr1 : W1.ownsRow w0.heap.size 23 3 u M.length (fl3 M) := by rw [hW1]; exact ownsRow_setCell_other (ownsRow_setCell_other h.row h.n3 _) h.n3 _
 have hc3 : Cells W1 b5 [u, va, ve, r] := by rw [hW1]; exact (h.c3.set 1 va (by simp)).set 2 ve (by simp)
 have hc2 : Cells W1 br [.slice none 0 0, .slice none 0 0, .slice none 0 0, .int .i64 0] := by rw [hW1]; exact (h.c2.put h.d2 _ _).put h.d2 _ _
 rw [<- hW1]
 clear hW1
 have oa : va.ownBlock = some W.heap.size := by rw [ea]; rfl
 have oe : ve.ownBlock = some (W.heap.size + 1) := by rw [ee]; rfl
 have nar : va.ownBlock ≠ some br := by rw [oa]; intro e; cases e; omega
 have ner : ve.ownBlock ≠ some br := by rw [oe]; intro e; cases e; omega
 have n1 := n_after W1 lit9
 have n2 := n_after (W1.alloc lit9) lit9
 have ra : (W1.alloc lit9).ownsRow w0.heap.size 23 3 va straightP.length (fl3 straightP) := by
  have := own_lit9 W1 (base := w0.heap.size) (by omega)
  rw [sz] at this; rw [ea]; exact this
 have re : ((W1.alloc lit9).alloc lit9).ownsRow w0.heap.size 23 3 ve straightP.length (fl3 straightP) := by
  have := own_lit9 (W1.alloc lit9) (base := w0.heap.size) (by simp; omega)
  rw [World.size_alloc, sz] at this; rw [ee]; exact this
 refine ⟨⟨own_below hr1 (b_step n1 n2), own_below ra n2, re, fun k e e' => ?_, fun k e e' => ?_, fun k e e' => ?_, b_step hb1 (b_step n1 n2)⟩, hc3.step (b_step n1 n2), hc2.step (b_step n1 n2), nar, ner⟩
 ·have a := (h.row.lt k e).2; rw [oa] at e'; cases e'; omega
 ·have a := (h.row.lt k e).2; rw [oe] at e'; cases e'; omega
 ·rw [oa] at e; rw [oe] at e'; simp only [Option.some.injEq] at e e'; omega
theorem corner_step (h : Pt) (i : Nat) (hi : i < 8) : (cornersP h).take i ++ [pt (cornersP h) i] = (cornersP h).take (i + 1) := (take_pt (by simpa [cornersP] using hi)).symm
set_option maxHeartbeats 4000000 in
set_option maxRecDepth 100000 in
theorem rcore_any (s : Sh) (pv : Value) (w0 : World) (hv : Lies w0 pv s.pts) :
  Calls Tryz.prog 22 #[s.v pv] w0 fun e W => ∃ vp va ve, (checkP s ≠ 0 -> e = .returned (.tuple #[.agg #[vp, va, ve, .int .i64 0], .int .i64 (checkP s)]) /\ Three w0 W vp va ve [] [] []) /\ (checkP s = 0 -> e = .returned (.tuple #[.agg #[vp, va, ve, .int .i64 s.radius], .int .i64 0]) /\ Three w0 W vp va ve (ptsP s) (axesP s) (edgesP s)) := by
 have hB : Hid (Below w0.heap.size w0 ((w0.alloc (.cells #[.int .i64 s.kind, .int .i64 s.radius, .int .i64 s.half.x, .int .i64 s.half.y, .int .i64 s.half.z, pv] 67)).alloc (.cells #[.slice none 0 0, .slice none 0 0, .slice none 0 0, .int .i64 0] 35))) := b_step (n_after w0 _) (n_after _ _)
 have HF : Hid _ := rcheck_any s pv ((w0.alloc (.cells #[.int .i64 s.kind, .int .i64 s.radius, .int .i64 s.half.x, .int .i64 s.half.y, .int .i64 s.half.z, pv] 67)).alloc (.cells #[.slice none 0 0, .slice none 0 0, .slice none 0 0, .int .i64 0] 35)) (hv.below hB.out)
 have B1 : Hid (Cells ((w0.alloc (.cells #[.int .i64 s.kind, .int .i64 s.radius, .int .i64 s.half.x, .int .i64 s.half.y, .int .i64 s.half.z, pv] 67)).alloc (.cells #[.slice none 0 0, .slice none 0 0, .slice none 0 0, .int .i64 0] 35)) w0.heap.size [.int .i64 s.kind, .int .i64 s.radius, .int .i64 s.half.x, .int .i64 s.half.y, .int .i64 s.half.z, pv]) := (Cells.new w0 [.int .i64 s.kind, .int .i64 s.radius, .int .i64 s.half.x, .int .i64 s.half.y, .int .i64 s.half.z, pv] _).step (n_after _ _)
 have B2 : Hid (Cells ((w0.alloc (.cells #[.int .i64 s.kind, .int .i64 s.radius, .int .i64 s.half.x, .int .i64 s.half.y, .int .i64 s.half.z, pv] 67)).alloc (.cells #[.slice none 0 0, .slice none 0 0, .slice none 0 0, .int .i64 0] 35)) (w0.heap.size + 1) [.slice none 0 0, .slice none 0 0, .slice none 0 0, .int .i64 0]) := by have := Cells.new (w0.alloc (.cells #[.int .i64 s.kind, .int .i64 s.radius, .int .i64 s.half.x, .int .i64 s.half.y, .int .i64 s.half.z, pv] 67)) [.slice none 0 0, .slice none 0 0, .slice none 0 0, .int .i64 0] 35; rwa [World.size_alloc] at this
 have HFO : Hid (checkP s = 0 -> formP s = true) := fun h => by
  cases hf : formP s with
  | true => rfl
  | false => unfold checkP at h; rw [hf] at h; simp at h
 obtain ⟨k, r, ⟨hx, hy, hz⟩, L⟩ := s
 have HPT : Hid (ptsP ⟨k, r, ⟨hx, hy, hz⟩, L⟩ = if k = 1 then [Pt.O] else if k = 2 then [⟨-hx, 0, 0⟩, ⟨hx, 0, 0⟩] else if k = 3 then cornersP ⟨hx, hy, hz⟩ else L) := rfl
 have HAX : Hid (axesP ⟨k, r, ⟨hx, hy, hz⟩, L⟩ = if k = 3 then straightP else if k = 4 then (sidesP L).1 else []) := rfl
 have HED : Hid (edgesP ⟨k, r, ⟨hx, hy, hz⟩, L⟩ = if k = 2 then [⟨1, 0, 0⟩] else if k = 3 then straightP else if k = 4 then (sidesP L).2 else []) := rfl
 have HFM : Hid (formP ⟨k, r, ⟨hx, hy, hz⟩, L⟩ = if k = 1 then inR r 1 16384 else if k = 2 then inR r 1 16384 && halfOk hx else if k = 3 then inR r 0 16384 && (halfOk hx && (halfOk hy && halfOk hz)) else if k = 4 then inR r 0 16384 && mayP L else false) := rfl
 generalize ptsP ⟨k, r, ⟨hx, hy, hz⟩, L⟩ = P at *
 generalize axesP ⟨k, r, ⟨hx, hy, hz⟩, L⟩ = A at *
 generalize edgesP ⟨k, r, ⟨hx, hy, hz⟩, L⟩ = E at *
 generalize checkP ⟨k, r, ⟨hx, hy, hz⟩, L⟩ = C at *
 generalize formP ⟨k, r, ⟨hx, hy, hz⟩, L⟩ = F at *
 have HV : Hid _ := hv
 obtain ⟨o, c, rfl, hlc, hcm, _⟩ := hv.form
 clear hv
 unfold Sh.v at *
 dsimp only at *
 obtain ⟨i0, hii, hiz, hisz, hib⟩ := info_parts point_info
 have HI : Hid _ := And.intro hii (And.intro hiz (And.intro hisz hib))
 clear hii hiz hisz hib
 go_enter Tryz.func22, Tryz.ntmps22
 go_wp2_with (fail)
 refine Calls.mono HF.out ?_
 clear HF
 rintro e V ⟨rfl, hb⟩
 have D1 : Hid (Cells V w0.heap.size [.int .i64 k, .int .i64 r, .int .i64 hx, .int .i64 hy, .int .i64 hz, .slice o L.length c]) := Cells.step B1.out hb
 have D2 : Hid (Cells V (w0.heap.size + 1) [.slice none 0 0, .slice none 0 0, .slice none 0 0, .int .i64 0]) := Cells.step B2.out hb
 have hD : Hid (Below w0.heap.size w0 V) := b_step hB.out hb
 clear B1 B2 hB
 have hsz : w0.heap.size + 1 < V.heap.size := World.block_lt_of_cell? _ _ (D2.out 0 _ rfl).1
 clear hb
 obtain ⟨ba, hba⟩ : ∃ b, b = w0.heap.size := ⟨_, rfl⟩
 obtain ⟨br, hbr⟩ : ∃ b, b = w0.heap.size + 1 := ⟨_, rfl⟩
 have hbl : w0.heap.size <= br := by omega
 have hbv : br < V.heap.size := by omega
 have hav : ba < V.heap.size := by omega
 rw [<- hbr] at D2 ⊢
 rw [<- hba] at D1
 rw [show w0.heap.size = ba from hba.symm]
 clear hbr hsz
 have hbaw : Hid _ := hba
 have r0 := (D2.out 0 _ rfl).1
 have r1 := (D2.out 1 _ rfl).1
 have r2 := (D2.out 2 _ rfl).1
 have r3 := (D2.out 3 _ rfl).1
 have f0 := (D2.out 0 _ rfl).2
 have f1 := (D2.out 1 _ rfl).2
 have f2 := (D2.out 2 _ rfl).2
 have f3 := (D2.out 3 _ rfl).2
 clear hba
 by_cases hC : C = 0
 ·subst hC
  have hF := HFO.out rfl
  clear HFO
  subst hF
  have s0 := (D1.out 0 _ rfl).1
  have s1 := (D1.out 1 _ rfl).1
  have s2 := (D1.out 2 _ rfl).1
  have s3 := (D1.out 3 _ rfl).1
  have s4 := (D1.out 4 _ rfl).1
  have s5 := (D1.out 5 _ rfl).1
  by_cases k1 : k = 1
  ·subst k1
   have eP : P = [Pt.O] := HPT.out
   have eA : A = [] := HAX.out
   have eE : E = [] := HED.out
   clear HPT HAX HED HFM
   subst eP eA eE
   clear r0 r1 r2 r3 f0 f1 f2 f3
   go_upto_region 22 with fail
   obtain ⟨X, hX⟩ : ∃ X : World, X = (V.alloc (.cells #[.slice (some ⟨V.heap.size + 1, 0, none⟩) 1 1, .slice none 0 0, .slice none 0 0, .int .i64 r] 35)).alloc (.cells #[.int .i64 0, .int .i64 0, .int .i64 0] 23) := ⟨_, rfl⟩
   have hb : Below V.heap.size V X := by rw [hX]; exact b_step (n_after _ _) (n_after _ _)
   have BC : Cells X V.heap.size [.slice (some ⟨V.heap.size + 1, 0, none⟩) 1 1, .slice none 0 0, .slice none 0 0, .int .i64 r] := by rw [hX]; exact Cells.step (Cells.new V [.slice (some ⟨V.heap.size + 1, 0, none⟩) 1 1, .slice none 0 0, .slice none 0 0, .int .i64 r] _) (n_after _ _)
   have H3 : Hid (Three w0 X (.slice (some ⟨V.heap.size + 1, 0, none⟩) 1 1) (.slice none 0 0) (.slice none 0 0) [Pt.O] [] []) := by rw [hX]; exact three_ball (b_step hD.out (n_after V _)) _ (by simp)
   have D2 := Cells.step D2.out hb
   have n1 : Value.ownBlock (.slice (some ⟨V.heap.size + 1, 0, none⟩) 1 1) ≠ some br := by simp [Value.ownBlock]; omega
   have n2 : Value.ownBlock (.slice none 0 0) ≠ some br := by simp [Value.ownBlock]
   have n3 := n2
   rw [<- hX]
   clear hX hb s0 s1 s2 s3 s4 s5 D1
   have t0 := (BC 0 _ rfl).1
   have t1 := (BC 1 _ rfl).1
   have t2 := (BC 2 _ rfl).1
   have t3 := (BC 3 _ rfl).1
   have r0 := (D2 0 _ rfl).1
   have r1 := (D2 1 _ rfl).1
   have r2 := (D2 2 _ rfl).1
   have r3 := (D2 3 _ rfl).1
   have f0 := (D2 0 _ rfl).2
   have f1 := (D2 1 _ rfl).2
   have f2 := (D2 2 _ rfl).2
   have f3 := (D2 3 _ rfl).2
   clear BC D2
   go_wp2_with (fail)
   refine bodyPost_ret (v := .tuple #[.agg #[.slice (some ⟨V.heap.size + 1, 0, none⟩) 1 1, .slice none 0 0, .slice none 0 0, .int .i64 r], .int .i64 0]) (by simp [results, Tryz.results22, go_sem, r0, r1, r2, r3]) rfl ⟨_, _, _, rfl, ?_⟩
   exact H3.out.set hbl n1 n2 n3 _ _ _ _
  by_cases k2 : k = 2
  ·subst k2
   have eP : P = [⟨-hx, 0, 0⟩, ⟨hx, 0, 0⟩] := HPT.out
   have eA : A = [] := HAX.out
   have eE : E = [⟨1, 0, 0⟩] := HED.out
   have hhx : 1 <= hx /\ hx <= 65536 := by
    have := HFM.out
    simp [halfOk] at this
    exact this.2
   clear HPT HAX HED HFM
   subst eP eA eE
   clear r0 r1 r2 r3 f0 f1 f2 f3
   go_upto_region 22 with fail
   obtain ⟨X, hX⟩ : ∃ X : World, X = ((V.alloc (.cells #[.slice (some ⟨V.heap.size + 1, 0, none⟩) 2 2, .slice none 0 0, .slice (some ⟨V.heap.size + 1 + 1, 0, none⟩) 1 1, .int .i64 r] 35)).alloc (.cells #[.int .i64 (-hx), .int .i64 0, .int .i64 0, .int .i64 hx, .int .i64 0, .int .i64 0] 23)).alloc (.cells #[.int .i64 1, .int .i64 0, .int .i64 0] 23) := ⟨_, rfl⟩
   have hb : Below V.heap.size V X := by rw [hX]; exact b_step (b_step (n_after _ _) (n_after _ _)) (n_after _ _)
   have BC : Cells X V.heap.size [.slice (some ⟨V.heap.size + 1, 0, none⟩) 2 2, .slice none 0 0, .slice (some ⟨V.heap.size + 1 + 1, 0, none⟩) 1 1, .int .i64 r] := by rw [hX]; exact Cells.step (Cells.new V [.slice (some ⟨V.heap.size + 1, 0, none⟩) 2 2, .slice none 0 0, .slice (some ⟨V.heap.size + 1 + 1, 0, none⟩) 1 1, .int .i64 r] _) (b_step (n_after _ _) (n_after _ _))
   have H3 : Hid (Three w0 X (.slice (some ⟨V.heap.size + 1, 0, none⟩) 2 2) (.slice none 0 0) (.slice (some ⟨V.heap.size + 1 + 1, 0, none⟩) 1 1) [⟨-hx, 0, 0⟩, ⟨hx, 0, 0⟩] [] [⟨1, 0, 0⟩]) := by rw [hX]; exact three_capsule (b_step hD.out (n_after V _)) hx _ _ (by simp) (by simp)
   have D2 := Cells.step D2.out hb
   have n1 : Value.ownBlock (.slice (some ⟨V.heap.size + 1, 0, none⟩) 2 2) ≠ some br := by simp [Value.ownBlock]; omega
   have n2 : Value.ownBlock (.slice none 0 0) ≠ some br := by simp [Value.ownBlock]
   have n3 : Value.ownBlock (.slice (some ⟨V.heap.size + 1 + 1, 0, none⟩) 1 1) ≠ some br := by simp [Value.ownBlock]; omega
   rw [<- hX]
   clear hX hb s0 s1 s2 s3 s4 s5 D1
   have t0 := (BC 0 _ rfl).1
   have t1 := (BC 1 _ rfl).1
   have t2 := (BC 2 _ rfl).1
   have t3 := (BC 3 _ rfl).1
   have r0 := (D2 0 _ rfl).1
   have r1 := (D2 1 _ rfl).1
   have r2 := (D2 2 _ rfl).1
   have r3 := (D2 3 _ rfl).1
   have f0 := (D2 0 _ rfl).2
   have f1 := (D2 1 _ rfl).2
   have f2 := (D2 2 _ rfl).2
   have f3 := (D2 3 _ rfl).2
   clear BC D2
   go_wp2_with (fail)
   refine bodyPost_ret (v := .tuple #[.agg #[.slice (some ⟨V.heap.size + 1, 0, none⟩) 2 2, .slice none 0 0, .slice (some ⟨V.heap.size + 1 + 1, 0, none⟩) 1 1, .int .i64 r], .int .i64 0]) (by simp [results, Tryz.results22, go_sem, r0, r1, r2, r3]) rfl ⟨_, _, _, rfl, ?_⟩
   exact H3.out.set hbl n1 n2 n3 _ _ _ _
  by_cases k3 : k = 3
  ·subst k3
   have eP : P = cornersP ⟨hx, hy, hz⟩ := HPT.out
   have eA : A = straightP := HAX.out
   have eE : E = straightP := HED.out
   have hh : (1 <= hx /\ hx <= 65536) /\ (1 <= hy /\ hy <= 65536) /\ (1 <= hz /\ hz <= 65536) := by
    have := HFM.out
    simp [halfOk] at this
    exact this.2
   clear HPT HAX HED HFM
   subst eP eA eE
   clear r0 r1 r2 r3 f0 f1 f2 f3
   go_upto_region 16 with fail
   obtain ⟨X, hX⟩ : ∃ X : World, X = V.alloc (.cells #[.slice none 0 0, .slice none 0 0, .slice none 0 0, .int .i64 r] 35) := ⟨_, rfl⟩
   obtain ⟨b5, hb5⟩ : ∃ b, b = V.heap.size := ⟨_, rfl⟩
   have hbX : Below V.heap.size V X := by rw [hX]; exact n_after _ _
   have KS0 : Hid (KS w0 X ba br b5 [.int .i64 3, .int .i64 r, .int .i64 hx, .int .i64 hy, .int .i64 hz, .slice o L.length c] (.int .i64 r) (.slice none 0 0) []) := ⟨Cells.step D1.out hbX, Cells.step D2.out hbX, by rw [hX, hb5]; exact Cells.new V [.slice none 0 0, .slice none 0 0, .slice none 0 0, .int .i64 r] _, World.ownsRow_nil _ _ _ _, (fun e => by cases e), (fun e => by cases e), (fun e => by cases e), b_step hD.out hbX, by have := hD.out.size; omega, by omega, by omega, ⟨_, rfl⟩⟩
   rw [<- hX, <- hb5]
   clear hX hb5 hbX s0 s1 s2 s3 s4 s5 D1 D2 hbv hav
   have w1 : IntKind.i64.wrap (-hx) = -hx := by rw [IntKind.wrap_i64]; omega
   have w2 : IntKind.i64.wrap (-hy) = -hy := by rw [IntKind.wrap_i64]; omega
   have w3 : IntKind.i64.wrap (-hz) = -hz := by rw [IntKind.wrap_i64]; omega
   have w4 : IntKind.i64.wrap hx = hx := by rw [IntKind.wrap_i64]; omega
   have w5 : IntKind.i64.wrap hy = hy := by rw [IntKind.wrap_i64]; omega
   have w6 : IntKind.i64.wrap hz = hz := by rw [IntKind.wrap_i64]; omega
   clear hh
   go_wp2_with (fail)
   go_loopg [6] 8 (fun gm s wr => ∃ (i : Nat) (u : Value), s = .int .i64 (i : Int) /\ i <= 8 /\ gm = 8 - i /\ Hid (KS w0 wr ba br b5 [.int .i64 3, .int .i64 r, .int .i64 hx, .int .i64 hy, .int .i64 hz, .slice o L.length c] (.int .i64 r) u ((cornersP ⟨hx, hy, hz⟩).take i)))
   case atStart => exact ⟨0, _, rfl, by omega, rfl, KS0.out⟩
   case round =>
    clear KS0
    obtain ⟨i, u, rfl, hi, hgm, KQ⟩ := hrel
    have HG1 : Hid _ := hgm
    clear hgm
    by_cases hit : i < 8
    ·have s2 := (KQ.out.c1 2 _ rfl).1
     have s3 := (KQ.out.c1 3 _ rfl).1
     have s4 := (KQ.out.c1 4 _ rfl).1
     have t0 := (KQ.out.c3 0 _ rfl).1
     have g0 := (KQ.out.c3 0 _ rfl).2
     obtain ⟨ou, lu, cu, rfl⟩ := own_slice KQ.out.row
     rcases (show i = 0 \/ i = 1 \/ i = 2 \/ i = 3 \/ i = 4 \/ i = 5 \/ i = 6 \/ i = 7 by omega) with rfl | rfl | rfl | rfl | rfl | rfl | rfl | rfl
     ·go_wp2_with (at_builtin; refine wpList_append_own_at _ rfl _ _ 24 rfl w0.heap.size 23 i0 _ 3 24 Tryz.underlying24 HI.out.1 HI.out.2.1 HI.out.2.2.1 HI.out.2.2.2 rfl (by decide) _ _ _ rfl (own_below KQ.out.row (n_after wr _)) ⟨wr.heap.size, 0, none⟩ 1 1 [.int .i64 (-hx), .int .i64 (-hy), .int .i64 (-hz)] rfl rfl (news_at (heap_alloc_new wr _)) (by intro u hu; simp at hu; rcases hu with rfl | rfl | rfl <;> rfl) (by unfold maxLen; simp [cornersP]) (by simp [cornersP]) (by simp; have := KQ.out.below.size; omega) ?_; intro u9 V2 r8 g8 _ s8; obtain ⟨o9, l9, c9, rfl⟩ := own_slice r8; have t9 := (Cells.grown (Cells.step KQ.out.c3 (n_after wr (.cells #[.int .i64 (-hx), .int .i64 (-hy), .int .i64 (-hz)] 23))) g8 KQ.out.n3) 0 _ rfl; have t0 := t9.1; have g0 := t9.2; clear t9)
      have KX : Hid (KS w0 (V2.setCell ⟨b5, 0, none⟩ (.slice o9 l9 c9)) ba br b5 [.int .i64 3, .int .i64 r, .int .i64 hx, .int .i64 hy, .int .i64 hz, .slice o L.length c] (.int .i64 r) (.slice o9 l9 c9) ((cornersP ⟨hx, hy, hz⟩).take 1)) := (KQ.out.step (n_after wr (.cells #[.int .i64 (-hx), .int .i64 (-hy), .int .i64 (-hz)] 23))).app (by rw [<- corner_step ⟨hx, hy, hz⟩ 0 (by decide), fl3_append, List.length_append]; exact r8) ⟨g8, by rcases s8 with e | e; exact Or.inl e; exact Or.inr ⟨_, e, Nat.le_refl _⟩⟩
      go_roundg (8 - 1)
      case measure => have := HG1.out; omega
      case rel => exact ⟨1, _, rfl, by omega, rfl, KX⟩
     ·go_wp2_with (at_builtin; refine wpList_append_own_at _ rfl _ _ 24 rfl w0.heap.size 23 i0 _ 3 24 Tryz.underlying24 HI.out.1 HI.out.2.1 HI.out.2.2.1 HI.out.2.2.2 rfl (by decide) _ _ _ rfl (own_below KQ.out.row (n_after wr _)) ⟨wr.heap.size, 0, none⟩ 1 1 [.int .i64 (-hx), .int .i64 (-hy), .int .i64 (hz)] rfl rfl (news_at (heap_alloc_new wr _)) (by intro u hu; simp at hu; rcases hu with rfl | rfl | rfl <;> rfl) (by unfold maxLen; simp [cornersP]) (by simp [cornersP]) (by simp; have := KQ.out.below.size; omega) ?_; intro u9 V2 r8 g8 _ s8; obtain ⟨o9, l9, c9, rfl⟩ := own_slice r8; have t9 := (Cells.grown (Cells.step KQ.out.c3 (n_after wr (.cells #[.int .i64 (-hx), .int .i64 (-hy), .int .i64 (hz)] 23))) g8 KQ.out.n3) 0 _ rfl; have t0 := t9.1; have g0 := t9.2; clear t9)
      have KX : Hid (KS w0 (V2.setCell ⟨b5, 0, none⟩ (.slice o9 l9 c9)) ba br b5 [.int .i64 3, .int .i64 r, .int .i64 hx, .int .i64 hy, .int .i64 hz, .slice o L.length c] (.int .i64 r) (.slice o9 l9 c9) ((cornersP ⟨hx, hy, hz⟩).take 2)) := (KQ.out.step (n_after wr (.cells #[.int .i64 (-hx), .int .i64 (-hy), .int .i64 (hz)] 23))).app (by rw [<- corner_step ⟨hx, hy, hz⟩ 1 (by decide), fl3_append, List.length_append]; exact r8) ⟨g8, by rcases s8 with e | e; exact Or.inl e; exact Or.inr ⟨_, e, Nat.le_refl _⟩⟩
      go_roundg (8 - 2)
      case measure => have := HG1.out; omega
      case rel => exact ⟨2, _, rfl, by omega, rfl, KX⟩
     ·go_wp2_with (at_builtin; refine wpList_append_own_at _ rfl _ _ 24 rfl w0.heap.size 23 i0 _ 3 24 Tryz.underlying24 HI.out.1 HI.out.2.1 HI.out.2.2.1 HI.out.2.2.2 rfl (by decide) _ _ _ rfl (own_below KQ.out.row (n_after wr _)) ⟨wr.heap.size, 0, none⟩ 1 1 [.int .i64 (-hx), .int .i64 (hy), .int .i64 (-hz)] rfl rfl (news_at (heap_alloc_new wr _)) (by intro u hu; simp at hu; rcases hu with rfl | rfl | rfl <;> rfl) (by unfold maxLen; simp [cornersP]) (by simp [cornersP]) (by simp; have := KQ.out.below.size; omega) ?_; intro u9 V2 r8 g8 _ s8; obtain ⟨o9, l9, c9, rfl⟩ := own_slice r8; have t9 := (Cells.grown (Cells.step KQ.out.c3 (n_after wr (.cells #[.int .i64 (-hx), .int .i64 (hy), .int .i64 (-hz)] 23))) g8 KQ.out.n3) 0 _ rfl; have t0 := t9.1; have g0 := t9.2; clear t9)
      have KX : Hid (KS w0 (V2.setCell ⟨b5, 0, none⟩ (.slice o9 l9 c9)) ba br b5 [.int .i64 3, .int .i64 r, .int .i64 hx, .int .i64 hy, .int .i64 hz, .slice o L.length c] (.int .i64 r) (.slice o9 l9 c9) ((cornersP ⟨hx, hy, hz⟩).take 3)) := (KQ.out.step (n_after wr (.cells #[.int .i64 (-hx), .int .i64 (hy), .int .i64 (-hz)] 23))).app (by rw [<- corner_step ⟨hx, hy, hz⟩ 2 (by decide), fl3_append, List.length_append]; exact r8) ⟨g8, by rcases s8 with e | e; exact Or.inl e; exact Or.inr ⟨_, e, Nat.le_refl _⟩⟩
      go_roundg (8 - 3)
      case measure => have := HG1.out; omega
      case rel => exact ⟨3, _, rfl, by omega, rfl, KX⟩
     ·go_wp2_with (at_builtin; refine wpList_append_own_at _ rfl _ _ 24 rfl w0.heap.size 23 i0 _ 3 24 Tryz.underlying24 HI.out.1 HI.out.2.1 HI.out.2.2.1 HI.out.2.2.2 rfl (by decide) _ _ _ rfl (own_below KQ.out.row (n_after wr _)) ⟨wr.heap.size, 0, none⟩ 1 1 [.int .i64 (-hx), .int .i64 (hy), .int .i64 (hz)] rfl rfl (news_at (heap_alloc_new wr _)) (by intro u hu; simp at hu; rcases hu with rfl | rfl | rfl <;> rfl) (by unfold maxLen; simp [cornersP]) (by simp [cornersP]) (by simp; have := KQ.out.below.size; omega) ?_; intro u9 V2 r8 g8 _ s8; obtain ⟨o9, l9, c9, rfl⟩ := own_slice r8; have t9 := (Cells.grown (Cells.step KQ.out.c3 (n_after wr (.cells #[.int .i64 (-hx), .int .i64 (hy), .int .i64 (hz)] 23))) g8 KQ.out.n3) 0 _ rfl; have t0 := t9.1; have g0 := t9.2; clear t9)
      have KX : Hid (KS w0 (V2.setCell ⟨b5, 0, none⟩ (.slice o9 l9 c9)) ba br b5 [.int .i64 3, .int .i64 r, .int .i64 hx, .int .i64 hy, .int .i64 hz, .slice o L.length c] (.int .i64 r) (.slice o9 l9 c9) ((cornersP ⟨hx, hy, hz⟩).take 4)) := (KQ.out.step (n_after wr (.cells #[.int .i64 (-hx), .int .i64 (hy), .int .i64 (hz)] 23))).app (by rw [<- corner_step ⟨hx, hy, hz⟩ 3 (by decide), fl3_append, List.length_append]; exact r8) ⟨g8, by rcases s8 with e | e; exact Or.inl e; exact Or.inr ⟨_, e, Nat.le_refl _⟩⟩
      go_roundg (8 - 4)
      case measure => have := HG1.out; omega
      case rel => exact ⟨4, _, rfl, by omega, rfl, KX⟩
     ·go_wp2_with (at_builtin; refine wpList_append_own_at _ rfl _ _ 24 rfl w0.heap.size 23 i0 _ 3 24 Tryz.underlying24 HI.out.1 HI.out.2.1 HI.out.2.2.1 HI.out.2.2.2 rfl (by decide) _ _ _ rfl (own_below KQ.out.row (n_after wr _)) ⟨wr.heap.size, 0, none⟩ 1 1 [.int .i64 (hx), .int .i64 (-hy), .int .i64 (-hz)] rfl rfl (news_at (heap_alloc_new wr _)) (by intro u hu; simp at hu; rcases hu with rfl | rfl | rfl <;> rfl) (by unfold maxLen; simp [cornersP]) (by simp [cornersP]) (by simp; have := KQ.out.below.size; omega) ?_; intro u9 V2 r8 g8 _ s8; obtain ⟨o9, l9, c9, rfl⟩ := own_slice r8; have t9 := (Cells.grown (Cells.step KQ.out.c3 (n_after wr (.cells #[.int .i64 (hx), .int .i64 (-hy), .int .i64 (-hz)] 23))) g8 KQ.out.n3) 0 _ rfl; have t0 := t9.1; have g0 := t9.2; clear t9)
      have KX : Hid (KS w0 (V2.setCell ⟨b5, 0, none⟩ (.slice o9 l9 c9)) ba br b5 [.int .i64 3, .int .i64 r, .int .i64 hx, .int .i64 hy, .int .i64 hz, .slice o L.length c] (.int .i64 r) (.slice o9 l9 c9) ((cornersP ⟨hx, hy, hz⟩).take 5)) := (KQ.out.step (n_after wr (.cells #[.int .i64 (hx), .int .i64 (-hy), .int .i64 (-hz)] 23))).app (by rw [<- corner_step ⟨hx, hy, hz⟩ 4 (by decide), fl3_append, List.length_append]; exact r8) ⟨g8, by rcases s8 with e | e; exact Or.inl e; exact Or.inr ⟨_, e, Nat.le_refl _⟩⟩
      go_roundg (8 - 5)
      case measure => have := HG1.out; omega
      case rel => exact ⟨5, _, rfl, by omega, rfl, KX⟩
     ·go_wp2_with (at_builtin; refine wpList_append_own_at _ rfl _ _ 24 rfl w0.heap.size 23 i0 _ 3 24 Tryz.underlying24 HI.out.1 HI.out.2.1 HI.out.2.2.1 HI.out.2.2.2 rfl (by decide) _ _ _ rfl (own_below KQ.out.row (n_after wr _)) ⟨wr.heap.size, 0, none⟩ 1 1 [.int .i64 (hx), .int .i64 (-hy), .int .i64 (hz)] rfl rfl (news_at (heap_alloc_new wr _)) (by intro u hu; simp at hu; rcases hu with rfl | rfl | rfl <;> rfl) (by unfold maxLen; simp [cornersP]) (by simp [cornersP]) (by simp; have := KQ.out.below.size; omega) ?_; intro u9 V2 r8 g8 _ s8; obtain ⟨o9, l9, c9, rfl⟩ := own_slice r8; have t9 := (Cells.grown (Cells.step KQ.out.c3 (n_after wr (.cells #[.int .i64 (hx), .int .i64 (-hy), .int .i64 (hz)] 23))) g8 KQ.out.n3) 0 _ rfl; have t0 := t9.1; have g0 := t9.2; clear t9)
      have KX : Hid (KS w0 (V2.setCell ⟨b5, 0, none⟩ (.slice o9 l9 c9)) ba br b5 [.int .i64 3, .int .i64 r, .int .i64 hx, .int .i64 hy, .int .i64 hz, .slice o L.length c] (.int .i64 r) (.slice o9 l9 c9) ((cornersP ⟨hx, hy, hz⟩).take 6)) := (KQ.out.step (n_after wr (.cells #[.int .i64 (hx), .int .i64 (-hy), .int .i64 (hz)] 23))).app (by rw [<- corner_step ⟨hx, hy, hz⟩ 5 (by decide), fl3_append, List.length_append]; exact r8) ⟨g8, by rcases s8 with e | e; exact Or.inl e; exact Or.inr ⟨_, e, Nat.le_refl _⟩⟩
      go_roundg (8 - 6)
      case measure => have := HG1.out; omega
      case rel => exact ⟨6, _, rfl, by omega, rfl, KX⟩
     ·go_wp2_with (at_builtin; refine wpList_append_own_at _ rfl _ _ 24 rfl w0.heap.size 23 i0 _ 3 24 Tryz.underlying24 HI.out.1 HI.out.2.1 HI.out.2.2.1 HI.out.2.2.2 rfl (by decide) _ _ _ rfl (own_below KQ.out.row (n_after wr _)) ⟨wr.heap.size, 0, none⟩ 1 1 [.int .i64 (hx), .int .i64 (hy), .int .i64 (-hz)] rfl rfl (news_at (heap_alloc_new wr _)) (by intro u hu; simp at hu; rcases hu with rfl | rfl | rfl <;> rfl) (by unfold maxLen; simp [cornersP]) (by simp [cornersP]) (by simp; have := KQ.out.below.size; omega) ?_; intro u9 V2 r8 g8 _ s8; obtain ⟨o9, l9, c9, rfl⟩ := own_slice r8; have t9 := (Cells.grown (Cells.step KQ.out.c3 (n_after wr (.cells #[.int .i64 (hx), .int .i64 (hy), .int .i64 (-hz)] 23))) g8 KQ.out.n3) 0 _ rfl; have t0 := t9.1; have g0 := t9.2; clear t9)
      have KX : Hid (KS w0 (V2.setCell ⟨b5, 0, none⟩ (.slice o9 l9 c9)) ba br b5 [.int .i64 3, .int .i64 r, .int .i64 hx, .int .i64 hy, .int .i64 hz, .slice o L.length c] (.int .i64 r) (.slice o9 l9 c9) ((cornersP ⟨hx, hy, hz⟩).take 7)) := (KQ.out.step (n_after wr (.cells #[.int .i64 (hx), .int .i64 (hy), .int .i64 (-hz)] 23))).app (by rw [<- corner_step ⟨hx, hy, hz⟩ 6 (by decide), fl3_append, List.length_append]; exact r8) ⟨g8, by rcases s8 with e | e; exact Or.inl e; exact Or.inr ⟨_, e, Nat.le_refl _⟩⟩
      go_roundg (8 - 7)
      case measure => have := HG1.out; omega
      case rel => exact ⟨7, _, rfl, by omega, rfl, KX⟩
     ·go_wp2_with (at_builtin; refine wpList_append_own_at _ rfl _ _ 24 rfl w0.heap.size 23 i0 _ 3 24 Tryz.underlying24 HI.out.1 HI.out.2.1 HI.out.2.2.1 HI.out.2.2.2 rfl (by decide) _ _ _ rfl (own_below KQ.out.row (n_after wr _)) ⟨wr.heap.size, 0, none⟩ 1 1 [.int .i64 (hx), .int .i64 (hy), .int .i64 (hz)] rfl rfl (news_at (heap_alloc_new wr _)) (by intro u hu; simp at hu; rcases hu with rfl | rfl | rfl <;> rfl) (by unfold maxLen; simp [cornersP]) (by simp [cornersP]) (by simp; have := KQ.out.below.size; omega) ?_; intro u9 V2 r8 g8 _ s8; obtain ⟨o9, l9, c9, rfl⟩ := own_slice r8; have t9 := (Cells.grown (Cells.step KQ.out.c3 (n_after wr (.cells #[.int .i64 (hx), .int .i64 (hy), .int .i64 (hz)] 23))) g8 KQ.out.n3) 0 _ rfl; have t0 := t9.1; have g0 := t9.2; clear t9)
      have KX : Hid (KS w0 (V2.setCell ⟨b5, 0, none⟩ (.slice o9 l9 c9)) ba br b5 [.int .i64 3, .int .i64 r, .int .i64 hx, .int .i64 hy, .int .i64 hz, .slice o L.length c] (.int .i64 r) (.slice o9 l9 c9) ((cornersP ⟨hx, hy, hz⟩).take 8)) := (KQ.out.step (n_after wr (.cells #[.int .i64 (hx), .int .i64 (hy), .int .i64 (hz)] 23))).app (by rw [<- corner_step ⟨hx, hy, hz⟩ 7 (by decide), fl3_append, List.length_append]; exact r8) ⟨g8, by rcases s8 with e | e; exact Or.inl e; exact Or.inr ⟨_, e, Nat.le_refl _⟩⟩
      go_roundg (8 - 8)
      case measure => have := HG1.out; omega
      case rel => exact ⟨8, _, rfl, by omega, rfl, KX⟩
    ·have e : i = 8 := by omega
     subst e
     obtain ⟨ou, lu, cu, rfl⟩ := own_slice KQ.out.row
     have t1 := (KQ.out.c3 1 _ rfl).1
     have t2 := (KQ.out.c3 2 _ rfl).1
     have g1 := (KQ.out.c3 1 _ rfl).2
     have g2 := (KQ.out.c3 2 _ rfl).2
     have hl5 : b5 < wr.heap.size := World.block_lt_of_cell? _ _ t1
     have hne5 : ¬ wr.heap.size = b5 := by omega
     obtain ⟨H3', BC', D2', n2, n3⟩ := KQ.out.brick hbl (va := .slice (some ⟨wr.heap.size, 0, none⟩) 3 3) (ve := .slice (some ⟨wr.heap.size + 1, 0, none⟩) 3 3) rfl rfl
     have n1 := KQ.out.ns
     rw [List.take_of_length_le (by simp [cornersP])] at H3'
     have H3 : Hid _ := H3'
     have BC : Hid _ := BC'
     have D2 : Hid _ := D2'
     unfold lit9 at H3 BC D2
     clear H3' BC' D2'
     go_upto_region 22 with fail
     generalize (((wr.setCell ⟨b5, 1, none⟩ (.slice (some ⟨wr.heap.size, 0, none⟩) 3 3)).setCell ⟨b5, 2, none⟩ (.slice (some ⟨wr.heap.size + 1, 0, none⟩) 3 3)).alloc (.cells #[.int .i64 1, .int .i64 0, .int .i64 0, .int .i64 0, .int .i64 1, .int .i64 0, .int .i64 0, .int .i64 0, .int .i64 1] 23)).alloc (.cells #[.int .i64 1, .int .i64 0, .int .i64 0, .int .i64 0, .int .i64 1, .int .i64 0, .int .i64 0, .int .i64 0, .int .i64 1] 23) = X9 at *
     clear t1 t2 g1 g2 hl5 hne5
     have BC := BC.out
     have D2 := D2.out
     have t0 := (BC 0 _ rfl).1
     have t1 := (BC 1 _ rfl).1
     have t2 := (BC 2 _ rfl).1
     have t3 := (BC 3 _ rfl).1
     have r0 := (D2 0 _ rfl).1
     have r1 := (D2 1 _ rfl).1
     have r2 := (D2 2 _ rfl).1
     have r3 := (D2 3 _ rfl).1
     have f0 := (D2 0 _ rfl).2
     have f1 := (D2 1 _ rfl).2
     have f2 := (D2 2 _ rfl).2
     have f3 := (D2 3 _ rfl).2
     clear BC D2
     go_wp2_with (fail)
     refine bodyPost_ret (v := .tuple #[.agg #[.slice ou lu cu, .slice (some ⟨wr.heap.size, 0, none⟩) 3 3, .slice (some ⟨wr.heap.size + 1, 0, none⟩) 3 3, .int .i64 r], .int .i64 0]) (by simp [results, Tryz.results22, go_sem, r0, r1, r2, r3]) rfl ⟨_, _, _, rfl, ?_⟩
     exact H3.out.set hbl n1 n2 n3 _ _ _ _
  by_cases k4 : k = 4
  ·subst k4
   have eP : P = L := HPT.out
   have eA : A = (sidesP L).1 := HAX.out
   have eE : E = (sidesP L).2 := HED.out
   have hm : mayP L = true := by
    have := HFM.out
    simp at this
    exact this.2
   obtain ⟨m1, m2, m3, m4⟩ := may_parts hm
   have M3 : Hid _ := m3
   clear HPT HAX HED HFM hm m3 m4
   subst eP
   have EA : Hid _ := eA
   have EE : Hid _ := eE
   clear eA eE r0 r1 r2 r3 f0 f1 f2 f3
   go_upto_region 6 with fail
   obtain ⟨X, hX⟩ : ∃ X : World, X = V.alloc (.cells #[.slice none 0 0, .slice none 0 0, .slice none 0 0, .int .i64 r] 35) := ⟨_, rfl⟩
   obtain ⟨b5, hb5⟩ : ∃ b, b = V.heap.size := ⟨_, rfl⟩
   have hbX : Below V.heap.size V X := by rw [hX]; exact n_after _ _
   have KS0 : Hid (KS w0 X ba br b5 [.int .i64 4, .int .i64 r, .int .i64 hx, .int .i64 hy, .int .i64 hz, .slice o P.length c] (.int .i64 r) (.slice none 0 0) []) := ⟨Cells.step D1.out hbX, Cells.step D2.out hbX, by rw [hX, hb5]; exact Cells.new V [.slice none 0 0, .slice none 0 0, .slice none 0 0, .int .i64 r] _, World.ownsRow_nil _ _ _ _, (fun e => by cases e), (fun e => by cases e), (fun e => by cases e), b_step hD.out hbX, by have := hD.out.size; omega, by omega, by omega, ⟨_, rfl⟩⟩
   rw [<- hX, <- hb5]
   clear hX hb5 hbX s0 s1 s2 s3 s4 s5 D1 D2 hbv hav
   have s5 := (KS0.out.c1 5 _ rfl).1
   have t0 := (KS0.out.c3 0 _ rfl).1
   have g0 := (KS0.out.c3 0 _ rfl).2
   have HVX : Hid _ := HV.out.below KS0.out.below
   obtain ⟨_, _, ev, _, _, hvc⟩ := HV.out.form
   cases ev
   obtain ⟨g, off, e9, _⟩ := hvc 0 (by omega)
   subst e9
   clear hvc
   have RD : Hid _ := Lies.read HVX.out 0 P ⟨[], by simp⟩
   rw [Nat.zero_mul, Nat.add_zero] at RD
   go_upto_region 7 with (at_builtin; refine wpList_append_own_at _ rfl _ _ 24 rfl w0.heap.size 23 i0 _ 3 24 Tryz.underlying24 HI.out.1 HI.out.2.1 HI.out.2.2.1 HI.out.2.2.2 rfl (by decide) _ 0 [] rfl (World.ownsRow_nil _ _ _ _) ⟨g, off, none⟩ P.length c (fl3 P) rfl (by rw [fl3_length]) RD.out (fl3_one _) (by unfold maxLen; omega) (by omega) KS0.out.below.size ?_; intro u9 V2 r8 g8 _ s8; obtain ⟨o9, l9, c9, rfl⟩ := own_slice r8; have t9 := (Cells.grown KS0.out.c3 g8 KS0.out.n3) 0 _ rfl; have t0 := t9.1; have g0 := t9.2; clear t9)
   have r8' : V2.ownsRow w0.heap.size 23 3 (.slice o9 l9 c9) P.length (fl3 P) := by simpa using r8
   have KX : Hid (KS w0 (V2.setCell ⟨b5, 0, none⟩ (.slice o9 l9 c9)) ba br b5 [.int .i64 4, .int .i64 r, .int .i64 hx, .int .i64 hy, .int .i64 hz, .slice (some ⟨g, off, none⟩) P.length c] (.int .i64 r) (.slice o9 l9 c9) P) := KS0.out.app r8' ⟨g8, by rcases s8 with e | e; exact Or.inl e; exact Or.inr ⟨_, e, Nat.le_refl _⟩⟩
   clear r8 r8' g8 s8 t0 g0 s5 RD HVX KS0
   generalize V2.setCell ⟨b5, 0, none⟩ (.slice o9 l9 c9) = X4 at *
   have s5 := (KX.out.c1 5 _ rfl).1
   have HVX : Hid _ := HV.out.below KX.out.below
   go_wp2_with (fail)
   refine Calls.mono (rhull_any _ P X4 HVX.out (by omega) m2 M3.out) ?_
   rintro e X5 ⟨va, ve, rfl, ht⟩
   rw [<- EA.out, <- EE.out] at ht
   obtain ⟨o2, c2, rfl, _⟩ := (Lies.of_row ht.ra).form
   obtain ⟨o3, c3, rfl, _⟩ := (Lies.of_row ht.re).form
   have hb5 := ht.below
   have l5 : b5 < X4.heap.size := World.block_lt_of_cell? _ _ (KX.out.c3 0 _ rfl).1
   have lr : br < X4.heap.size := World.block_lt_of_cell? _ _ (KX.out.c2 0 _ rfl).1
   have hs4 := KX.out.below.size
   have H3' : Three w0 X5 (.slice o9 l9 c9) (.slice o2 A.length c2) (.slice o3 E.length c3) P A E := ⟨own_below KX.out.row hb5, own_le ht.ra hs4, own_le ht.re hs4, fun k e e' => by have a := (KX.out.row.lt k e).2; have b := (ht.ra.lt k e').1; omega, fun k e e' => by have a := (KX.out.row.lt k e).2; have b := (ht.re.lt k e').1; omega, fun k e e' => ht.apart k e' e, b_step KX.out.below hb5⟩
   have q1 := KX.out.n3
   have q2 : (Value.slice o2 A.length c2).ownBlock ≠ some b5 := fun e => by have := (ht.ra.lt _ e).1; omega
   have q3 : (Value.slice o3 E.length c3).ownBlock ≠ some b5 := fun e => by have := (ht.re.lt _ e).1; omega
   have n1 := KX.out.ns
   have n2 : (Value.slice o2 A.length c2).ownBlock ≠ some br := fun e => by have := (ht.ra.lt _ e).1; omega
   have n3 : (Value.slice o3 E.length c3).ownBlock ≠ some br := fun e => by have := (ht.re.lt _ e).1; omega
   have BC' := ((KX.out.c3.step hb5).set 1 (.slice o2 A.length c2) (by simp)).set 2 (.slice o3 E.length c3) (by simp)
   have D2' := ((KX.out.c2.step hb5).put KX.out.d2 1 (.slice o2 A.length c2)).put KX.out.d2 2 (.slice o3 E.length c3)
   have H3 : Hid _ := (H3'.put KX.out.l3 q1 q2 q3 1 (.slice o2 A.length c2)).put KX.out.l3 q1 q2 q3 2 (.slice o3 E.length c3)
   have t1 := (KX.out.c3.step hb5 1 _ rfl).1
   have t2 := (KX.out.c3.step hb5 2 _ rfl).1
   have g1 := (KX.out.c3.step hb5 1 _ rfl).2
   have g2 := (KX.out.c3.step hb5 2 _ rfl).2
   clear ht hb5 s5 H3' HVX
   go_upto_region 22 with fail
   generalize (X5.setCell ⟨b5, 1, none⟩ (.slice o2 A.length c2)).setCell ⟨b5, 2, none⟩ (.slice o3 E.length c3) = X6 at *
   clear t1 t2 g1 g2
   have BC := BC'
   have D2 := D2'
   clear BC' D2'
   have t0 := (BC 0 _ rfl).1
   have t1 := (BC 1 _ rfl).1
   have t2 := (BC 2 _ rfl).1
   have t3 := (BC 3 _ rfl).1
   have r0 := (D2 0 _ rfl).1
   have r1 := (D2 1 _ rfl).1
   have r2 := (D2 2 _ rfl).1
   have r3 := (D2 3 _ rfl).1
   have f0 := (D2 0 _ rfl).2
   have f1 := (D2 1 _ rfl).2
   have f2 := (D2 2 _ rfl).2
   have f3 := (D2 3 _ rfl).2
   clear BC D2
   go_wp2_with (fail)
   refine bodyPost_ret (v := .tuple #[.agg #[.slice o9 l9 c9, .slice o2 A.length c2, .slice o3 E.length c3, .int .i64 r], .int .i64 0]) (by simp [results, Tryz.results22, go_sem, r0, r1, r2, r3]) rfl ⟨_, _, _, rfl, ?_⟩
   exact H3.out.set hbl n1 n2 n3 _ _ _ _
  ·have := HFM.out
   rw [if_neg k1, if_neg k2, if_neg k3, if_neg k4] at this
   cases this
 ·clear HFO
  go_wp2_with (fail)
  refine bodyPost_ret (v := .tuple #[.agg #[.slice none 0 0, .slice none 0 0, .slice none 0 0, .int .i64 0], .int .i64 C]) (by simp [results, Tryz.results22, go_sem, r0, r1, r2, r3]) rfl ⟨_, _, _, fun _ => ⟨rfl, ?_⟩, fun h => absurd h hC⟩
  exact three_nil (set4_below hD.out hbl _ _ _ _)
end
section
theorem mem_axis {A : List Pt} {n q : Pt} : q ∈ withAxisP A n ↔ q ∈ A \/ q = n := by
 unfold withAxisP
 split
 ·rename_i h
  exact ⟨Or.inl, fun k => k.elim id fun e => e ▸ h⟩
 ·simp
def Gives (L : List Pt) (a b c q : Pt) : Prop :=
 (b.sub a).cross (c.sub a) ≠ Pt.O /\ ¬ (above L ((b.sub a).cross (c.sub a)) a = true /\ below L ((b.sub a).cross (c.sub a)) a = true) /\ q = (if above L ((b.sub a).cross (c.sub a)) a then ((b.sub a).cross (c.sub a)).neg else (b.sub a).cross (c.sub a)).short
theorem mem_tri {L : List Pt} {a b c q : Pt} {s : List Pt × List Pt} : q ∈ (triP L a b c s).1 ↔ q ∈ s.1 \/ Gives L a b c q := by
 unfold triP Gives
 dsimp only
 generalize (b.sub a).cross (c.sub a) = n
 split
 ·rename_i h
  refine ⟨Or.inl, fun k => k.elim id fun g => ?_⟩
  rcases h with h | h
  ·exact absurd h g.1
  ·exact absurd h g.2.1
 ·rename_i h
  rw [not_or] at h
  dsimp only
  rw [mem_axis]
  exact ⟨fun k => k.elim Or.inl fun e => Or.inr ⟨h.1, h.2, e⟩, fun k => k.elim Or.inl fun g => Or.inr g.2.2⟩
theorem mem_inner {L : List Pt} {a b q : Pt} : ∀ (M : List Pt) (s : List Pt × List Pt), q ∈ (innerP L a b M s).1 ↔ q ∈ s.1 \/ ∃ c ∈ M, Gives L a b c q
 | [], s => by simp [innerP]
 | c :: r, s => by
  rw [innerP, mem_inner r, mem_tri]
  simp only [List.mem_cons, exists_eq_or_imp, or_assoc]
theorem mem_mid {L : List Pt} {a q : Pt} : ∀ (M : List Pt) (s : List Pt × List Pt), q ∈ (midP L a M s).1 ↔ q ∈ s.1 \/ ∃ b c, List.Sublist [b, c] M /\ Gives L a b c q
 | [], s => by simp [midP]
 | b :: r, s => by
  rw [midP, mem_mid r, mem_inner]
  constructor
  ·rintro ((h | ⟨c, hc, g⟩) | ⟨b', c, hs, g⟩)
   ·exact Or.inl h
   ·exact Or.inr ⟨b, c, List.Sublist.cons_cons _ (List.singleton_sublist.2 hc), g⟩
   ·exact Or.inr ⟨b', c, hs.cons _, g⟩
  ·rintro (h | ⟨b', c, hs, g⟩)
   ·exact Or.inl (Or.inl h)
   ·rcases List.sublist_cons_iff.1 hs with h | ⟨t, e, h⟩
    ·exact Or.inr ⟨b', c, h, g⟩
    ·simp only [List.cons.injEq] at e
     obtain ⟨rfl, rfl⟩ := e
     exact Or.inl (Or.inr ⟨c, List.singleton_sublist.1 h, g⟩)
theorem mem_outer {L : List Pt} {q : Pt} : ∀ (M : List Pt) (s : List Pt × List Pt), q ∈ (outerP L M s).1 ↔ q ∈ s.1 \/ ∃ a b c, List.Sublist [a, b, c] M /\ Gives L a b c q
 | [], s => by simp [outerP]
 | a :: r, s => by
  rw [outerP, mem_outer r, mem_mid]
  constructor
  ·rintro ((h | ⟨b, c, hc, g⟩) | ⟨a', b', c, hs, g⟩)
   ·exact Or.inl h
   ·exact Or.inr ⟨a, b, c, List.Sublist.cons_cons _ hc, g⟩
   ·exact Or.inr ⟨a', b', c, hs.cons _, g⟩
  ·rintro (h | ⟨a', b', c, hs, g⟩)
   ·exact Or.inl (Or.inl h)
   ·rcases List.sublist_cons_iff.1 hs with h | ⟨t, e, h⟩
    ·exact Or.inr ⟨a', b', c, h, g⟩
    ·simp only [List.cons.injEq] at e
     obtain ⟨rfl, rfl⟩ := e
     exact Or.inl (Or.inr ⟨b', c, h, g⟩)
theorem mem_sides {L : List Pt} {q : Pt} : q ∈ (sidesP L).1 ↔ ∃ a b c, List.Sublist [a, b, c] L /\ Gives L a b c q := by
 unfold sidesP
 rw [mem_outer]
 simp
end
section
theorem filter_two {α : Type} (p : α -> Bool) : ∀ L : List α, L.length = (L.filter p).length + (L.filter (fun x => !p x)).length
 | [] => rfl
 | x :: r => by
  have := filter_two p r
  cases h : p x <;> simp [h] <;> omega
theorem fiber_le {α β : Type} [DecidableEq β] (f : α -> β) (c : Nat) : ∀ (Q : List β) (L : List α), (∀ x ∈ L, f x ∈ Q) -> (∀ q ∈ Q, (L.filter (fun x => decide (f x = q))).length <= c) -> L.length <= c * Q.length
 | [], L, h, _ => by
  cases L with
  | nil => simp
  | cons x r => exact absurd (h x List.mem_cons_self) (by simp)
 | q :: Q, L, h, hc => by
  have h1 := hc q List.mem_cons_self
  have h2 := fiber_le f c Q (L.filter (fun x => !decide (f x = q))) (fun x hx => by
   rw [List.mem_filter] at hx
   rcases List.mem_cons.1 (h x hx.1) with e | e
   ·simp [e] at hx
   ·exact e) (fun q' hq' => by
   refine Nat.le_trans ?_ (hc q' (List.mem_cons_of_mem _ hq'))
   rw [List.filter_filter]
   rw [<- List.countP_eq_length_filter, <- List.countP_eq_length_filter]
   exact List.countP_mono_left (fun x _ hx => by simp at hx ⊢; exact hx.1))
  have h3 := filter_two (fun x => decide (f x = q)) L
  rw [List.length_cons, Nat.mul_succ]
  omega
def pairsL : List Pt -> List (Pt × Pt)
 | [] => []
 | x :: r => r.map (fun y => (x, y)) ++ pairsL r
theorem pairs_mem {b c : Pt} : ∀ {L : List Pt}, List.Sublist [b, c] L -> (b, c) ∈ pairsL L
 | [], h => by simp at h
 | x :: r, h => by
  rw [pairsL, List.mem_append]
  rcases List.sublist_cons_iff.1 h with h | ⟨t, e, h⟩
  ·exact Or.inr (pairs_mem h)
  ·simp only [List.cons.injEq] at e
   obtain ⟨rfl, rfl⟩ := e
   exact Or.inl (List.mem_map.2 ⟨c, List.singleton_sublist.1 h, rfl⟩)
theorem pairs_len : ∀ L : List Pt, (pairsL L).length * 2 + L.length = L.length * L.length
 | [] => rfl
 | x :: r => by
  have := pairs_len r
  simp only [pairsL, List.length_append, List.length_map, List.length_cons]
  grind
theorem pairs_55 {L : List Pt} (h : L.length <= 11) : (pairsL L).length <= 55 := by
 have h1 := pairs_len L
 generalize (pairsL L).length = k at *
 have : L.length = 0 \/ L.length = 1 \/ L.length = 2 \/ L.length = 3 \/ L.length = 4 \/ L.length = 5 \/ L.length = 6 \/ L.length = 7 \/ L.length = 8 \/ L.length = 9 \/ L.length = 10 \/ L.length = 11 := by omega
 rcases this with e | e | e | e | e | e | e | e | e | e | e | e <;> rw [e] at h1 <;> omega
theorem pairs_66 {L : List Pt} (h : L.length <= 12) : (pairsL L).length <= 66 := by
 have h1 := pairs_len L
 generalize (pairsL L).length = k at *
 have : L.length = 0 \/ L.length = 1 \/ L.length = 2 \/ L.length = 3 \/ L.length = 4 \/ L.length = 5 \/ L.length = 6 \/ L.length = 7 \/ L.length = 8 \/ L.length = 9 \/ L.length = 10 \/ L.length = 11 \/ L.length = 12 := by omega
 rcases this with e | e | e | e | e | e | e | e | e | e | e | e | e <;> rw [e] at h1 <;> omega
def tri (a b c : Pt) : Int := (a.cross b).dot c
theorem sq_zero {x y z : Int} (h : x * x + y * y + z * z = 0) : x = 0 /\ y = 0 /\ z = 0 := by
 have s : ∀ t : Int, 0 <= t * t := fun t => by rcases Int.le_total 0 t with h | h; exact Int.mul_nonneg h h; have := Int.mul_nonneg (a := -t) (b := -t) (by omega) (by omega); rwa [Int.neg_mul_neg] at this
 have hx := s x
 have hy := s y
 have hz := s z
 refine ⟨?_, ?_, ?_⟩
 ·have : x * x = 0 := by omega
  rcases Int.mul_eq_zero.1 this with h | h <;> exact h
 ·have : y * y = 0 := by omega
  rcases Int.mul_eq_zero.1 this with h | h <;> exact h
 ·have : z * z = 0 := by omega
  rcases Int.mul_eq_zero.1 this with h | h <;> exact h
theorem self_pos {p : Pt} (h : p ≠ Pt.O) : p.dot p ≠ 0 := fun e => h (by
 obtain ⟨h1, h2, h3⟩ := sq_zero e
 cases p
 simp only [Pt.O] at *
 simp [h1, h2, h3])
theorem hang (a b c e y : Pt) : tri b c e * a.dot y + tri c a e * b.dot y + tri a b e * c.dot y = tri a b c * e.dot y := by
 simp only [tri, Pt.cross, Pt.dot]
 grind
theorem three_flat {a b c e : Pt} (h0 : e ≠ Pt.O) (ha : a.dot e = 0) (hb : b.dot e = 0) (hc : c.dot e = 0) (y : Pt) : tri b c e * a.dot y + tri c a e * b.dot y + tri a b e * c.dot y = 0 := by
 have h1 := hang a b c e e
 rw [ha, hb, hc] at h1
 simp only [Int.mul_zero, Int.add_zero] at h1
 have h2 : tri a b c = 0 := (Int.mul_eq_zero.1 h1.symm).resolve_right (self_pos h0)
 rw [hang, h2, Int.zero_mul]
theorem same_way {a b e : Pt} (h0 : e ≠ Pt.O) (ha : a.dot e = 0) (hb : b.dot e = 0) (h : tri a b e = 0) : a.cross b = Pt.O := by
 have h1 : (a.cross b).dot (a.cross b) * e.dot e = 0 := by
  simp only [tri, Pt.cross, Pt.dot] at *
  grind
 have h2 := (Int.mul_eq_zero.1 h1).resolve_right (self_pos h0)
 by_cases h3 : a.cross b = Pt.O
 ·exact h3
 ·exact absurd h2 (self_pos h3)
theorem both_nought {A B x y : Int} (hA : A ≠ 0) (hB : B ≠ 0) (hs : 0 < A * B) (hx : x <= 0) (hy : y <= 0) (h : A * x + B * y = 0) : x = 0 /\ y = 0 := by
 rcases Int.lt_or_gt_of_ne hA with a | a
 ·have b : B < 0 := by
   rcases Int.lt_or_gt_of_ne hB with b | b
   ·exact b
   ·have := Int.mul_neg_of_neg_of_pos a b; omega
  have h1 : 0 <= A * x := by have := Int.mul_nonneg (a := -A) (b := -x) (by omega) (by omega); rwa [Int.neg_mul_neg] at this
  have h2 : 0 <= B * y := by have := Int.mul_nonneg (a := -B) (b := -y) (by omega) (by omega); rwa [Int.neg_mul_neg] at this
  exact ⟨(Int.mul_eq_zero.1 (show A * x = 0 by omega)).resolve_left hA, (Int.mul_eq_zero.1 (show B * y = 0 by omega)).resolve_left hB⟩
 ·have b : 0 < B := by
   rcases Int.lt_or_gt_of_ne hB with b | b
   ·have := Int.mul_neg_of_pos_of_neg a b; omega
   ·exact b
  have h1 : A * x <= 0 := by have := Int.mul_nonneg (a := A) (b := -x) (by omega) (by omega); rw [Int.mul_neg] at this; omega
  have h2 : B * y <= 0 := by have := Int.mul_nonneg (a := B) (b := -y) (by omega) (by omega); rw [Int.mul_neg] at this; omega
  exact ⟨(Int.mul_eq_zero.1 (show A * x = 0 by omega)).resolve_left hA, (Int.mul_eq_zero.1 (show B * y = 0 by omega)).resolve_left hB⟩
theorem two_alike {A B C : Int} (hA : A ≠ 0) (hB : B ≠ 0) (hC : C ≠ 0) : 0 < A * B \/ 0 < B * C \/ 0 < C * A := by
 rcases Int.lt_or_gt_of_ne hA with a | a <;> rcases Int.lt_or_gt_of_ne hB with b | b <;> rcases Int.lt_or_gt_of_ne hC with c | c
 ·exact Or.inl (Int.mul_pos_of_neg_of_neg a b)
 ·exact Or.inl (Int.mul_pos_of_neg_of_neg a b)
 ·exact Or.inr (Or.inr (Int.mul_pos_of_neg_of_neg c a))
 ·exact Or.inr (Or.inl (Int.mul_pos b c))
 ·exact Or.inr (Or.inl (Int.mul_pos_of_neg_of_neg b c))
 ·exact Or.inr (Or.inr (Int.mul_pos c a))
 ·exact Or.inl (Int.mul_pos a b)
 ·exact Or.inl (Int.mul_pos a b)
structure Sd (L : List Pt) (b c N a : Pt) : Prop where
 ne : N ≠ Pt.O
 sq : N.dot (c.sub b) = 0
 le : ∀ x ∈ L, N.dot (x.sub b) <= 0
 mem : a ∈ L
 on : N.dot (a.sub b) = 0
 is : N = (c.sub b).cross (a.sub b) \/ N = ((c.sub b).cross (a.sub b)).neg
theorem tri_is (e u N : Pt) : tri (e.cross u) N e = N.dot e * u.dot e - N.dot u * e.dot e := by
 simp only [tri, Pt.cross, Pt.dot]
 grind
theorem tri_neg (p N e : Pt) : tri p.neg N e = -(tri p N e) := by
 simp only [tri, Pt.cross, Pt.dot, Pt.neg]
 grind
theorem third {b c N1 N2 N3 a1 a2 a3 : Pt} {L : List Pt} (h1 : Sd L b c N1 a1) (h2 : Sd L b c N2 a2) (h3 : Sd L b c N3 a3) (hA : tri N2 N3 (c.sub b) ≠ 0) (hB : tri N3 N1 (c.sub b) ≠ 0) (hC : tri N1 N2 (c.sub b) ≠ 0) (hs : 0 < tri N2 N3 (c.sub b) * tri N3 N1 (c.sub b)) : False := by
 have he : c.sub b ≠ Pt.O := fun e => hC (by rw [e]; simp [tri, Pt.dot, Pt.O])
 have h := three_flat he h1.sq h2.sq h3.sq (a3.sub b)
 rw [h3.on, Int.mul_zero, Int.add_zero] at h
 obtain ⟨x, y⟩ := both_nought hA hB hs (h1.le _ h3.mem) (h2.le _ h3.mem) h
 have hsq := h1.sq
 apply hB
 rcases h3.is with k | k
 ·rw [k, tri_is, hsq, x, Int.zero_mul, Int.zero_mul]
  rfl
 ·rw [k, tri_neg, tri_is, hsq, x, Int.zero_mul, Int.zero_mul]
  rfl
theorem no_three {b c N1 N2 N3 a1 a2 a3 : Pt} {L : List Pt} (h1 : Sd L b c N1 a1) (h2 : Sd L b c N2 a2) (h3 : Sd L b c N3 a3) (hA : tri N2 N3 (c.sub b) ≠ 0) (hB : tri N3 N1 (c.sub b) ≠ 0) (hC : tri N1 N2 (c.sub b) ≠ 0) : False := by
 rcases two_alike hA hB hC with h | h | h
 ·exact third h1 h2 h3 hA hB hC h
 ·exact third h2 h3 h1 hB hC hA h
 ·exact third h3 h1 h2 hC hA hB h
theorem gcd_line {a b : Pt} (k l : Int) (h1 : k * b.x = l * a.x) (h2 : k * b.y = l * a.y) (h3 : k * b.z = l * a.z) : k.natAbs * b.g = l.natAbs * a.g := by
 unfold Pt.g
 rw [<- Nat.gcd_mul_left, <- Nat.gcd_mul_left, <- Nat.gcd_mul_left, <- Nat.gcd_mul_left, <- Int.natAbs_mul, <- Int.natAbs_mul, <- Int.natAbs_mul, <- Int.natAbs_mul, <- Int.natAbs_mul, <- Int.natAbs_mul, h1, h2, h3]
theorem part_same {x y : Int} {m n : Nat} (hm : 0 < m) (hn : 0 < n) (dx : (m : Int) ∣ x) (dy : (n : Int) ∣ y) (e : x.natAbs * n = y.natAbs * m) (s : 0 <= x * y) : x.tdiv m = y.tdiv n := by
 obtain ⟨u, rfl⟩ := dx
 obtain ⟨v, rfl⟩ := dy
 have hm' : (m : Int) ≠ 0 := by omega
 have hn' : (n : Int) ≠ 0 := by omega
 rw [Int.mul_tdiv_cancel_left _ hm', Int.mul_tdiv_cancel_left _ hn']
 rw [Int.natAbs_mul, Int.natAbs_mul, Int.natAbs_natCast, Int.natAbs_natCast] at e
 have e2 : (m * n) * u.natAbs = (m * n) * v.natAbs := by
  rw [Nat.mul_right_comm, e, Nat.mul_comm m n, Nat.mul_right_comm]
 have e3 := Nat.eq_of_mul_eq_mul_left (Nat.mul_pos hm hn) e2
 have s2 : 0 <= u * v := by
  have s3 : (m : Int) * u * (n * v) = ((m : Int) * n) * (u * v) := by grind
  rw [s3] at s
  have hp : (0 : Int) < (m : Int) * n := Int.mul_pos (by omega) (by omega)
  rcases Decidable.em (u * v < 0) with h | h
  ·have := Int.mul_neg_of_pos_of_neg hp h; omega
  ·omega
 rcases (show u = v \/ u = -v by omega) with h | h
 ·exact h
 ·subst h
  have : v * v <= 0 := by rw [Int.neg_mul] at s2; omega
  have h0 : v = 0 := (sq_zero (x := v) (y := 0) (z := 0) (by have := (show (0 : Int) <= v * v from by rcases Int.le_total 0 v with h | h; exact Int.mul_nonneg h h; have := Int.mul_nonneg (a := -v) (b := -v) (by omega) (by omega); rwa [Int.neg_mul_neg] at this); omega)).1
  omega
theorem g_pos {p : Pt} (h : p ≠ Pt.O) : 0 < p.g := by
 rcases Nat.eq_zero_or_pos p.g with h0 | h0
 ·exfalso
  unfold Pt.g at h0
  rw [Nat.gcd_eq_zero_iff, Nat.gcd_eq_zero_iff] at h0
  apply h
  cases p
  simp only [Pt.O, Pt.mk.injEq] at *
  omega
 ·exact h0
theorem g_dvdZ (p : Pt) : (p.g : Int) ∣ p.x /\ (p.g : Int) ∣ p.y /\ (p.g : Int) ∣ p.z := by
 have h1 : p.g ∣ p.x.natAbs := Nat.dvd_trans (Nat.gcd_dvd_left _ _) (Nat.gcd_dvd_left _ _)
 have h2 : p.g ∣ p.y.natAbs := Nat.dvd_trans (Nat.gcd_dvd_left _ _) (Nat.gcd_dvd_right _ _)
 have h3 : p.g ∣ p.z.natAbs := Nat.gcd_dvd_right _ _
 exact ⟨Int.dvd_natAbs.1 (Int.natCast_dvd_natCast.2 h1), Int.dvd_natAbs.1 (Int.natCast_dvd_natCast.2 h2), Int.dvd_natAbs.1 (Int.natCast_dvd_natCast.2 h3)⟩
theorem sign_same {a b : Pt} (hb : b ≠ Pt.O) (hd : 0 < a.dot b) {s t : Int} (h : s * b.dot b = t * a.dot b) : 0 <= s * t := by
 have h0 := self_pos hb
 have h1 : 0 <= b.dot b := by
  simp only [Pt.dot]
  have q : ∀ t : Int, 0 <= t * t := fun t => by rcases Int.le_total 0 t with h | h; exact Int.mul_nonneg h h; have := Int.mul_nonneg (a := -t) (b := -t) (by omega) (by omega); rwa [Int.neg_mul_neg] at this
  have := q b.x
  have := q b.y
  have := q b.z
  omega
 rcases Decidable.em (s * t < 0) with h2 | h2
 ·exfalso
  have h3 : s * t * b.dot b = t * t * a.dot b := by
   have : s * t * b.dot b = t * (s * b.dot b) := by grind
   rw [this, h]
   grind
  have h4 : s * t * b.dot b < 0 := Int.mul_neg_of_neg_of_pos h2 (by omega)
  have h5 : 0 <= t * t := by rcases Int.le_total 0 t with h | h; exact Int.mul_nonneg h h; have := Int.mul_nonneg (a := -t) (b := -t) (by omega) (by omega); rwa [Int.neg_mul_neg] at this
  have h6 := Int.mul_nonneg h5 (Int.le_of_lt hd)
  omega
 ·omega
theorem low_same {a b : Pt} (ha : a ≠ Pt.O) (hb : b ≠ Pt.O) (h : a.cross b = Pt.O) (hd : 0 < a.dot b) : a.low = b.low := by
 have ga := g_pos ha
 have gb := g_pos hb
 obtain ⟨a1, a2, a3⟩ := g_dvdZ a
 obtain ⟨b1, b2, b3⟩ := g_dvdZ b
 simp only [Pt.cross, Pt.O, Pt.mk.injEq] at h
 obtain ⟨c1, c2, c3⟩ := h
 have ex := gcd_line (a := a) (b := b) a.x b.x (by grind) (by grind) (by grind)
 have ey := gcd_line (a := a) (b := b) a.y b.y (by grind) (by grind) (by grind)
 have ez := gcd_line (a := a) (b := b) a.z b.z (by grind) (by grind) (by grind)
 have sx := sign_same hb hd (s := a.x) (t := b.x) (by simp only [Pt.dot]; grind)
 have sy := sign_same hb hd (s := a.y) (t := b.y) (by simp only [Pt.dot]; grind)
 have sz := sign_same hb hd (s := a.z) (t := b.z) (by simp only [Pt.dot]; grind)
 unfold Pt.low
 rw [if_neg (by omega), if_neg (by omega)]
 unfold Pt.by
 rw [part_same ga gb a1 b1 ex sx, part_same ga gb a2 b2 ey sy, part_same ga gb a3 b3 ez sz]
theorem short_same {a b : Pt} (ha : a ≠ Pt.O) (hb : b ≠ Pt.O) (h : a.cross b = Pt.O) (hd : 0 < a.dot b) (ia : a.inB 4398046511104 = true) (ib : b.inB 4398046511104 = true) : a.short = b.short := by
 unfold Pt.short
 rw [if_pos ia, if_pos ib, low_same ha hb h hd]
theorem flat_of {L : List Pt} {N b : Pt} (hN : N ≠ Pt.O) (h : ∀ x ∈ L, N.dot (x.sub b) = 0) : flatAll L := by
 intro p hp q hq r hr s hs
 have h1 : N.dot (q.sub p) = 0 := by have := h p hp; have := h q hq; simp only [Pt.dot, Pt.sub] at *; grind
 have h2 : N.dot (r.sub p) = 0 := by have := h p hp; have := h r hr; simp only [Pt.dot, Pt.sub] at *; grind
 have h3 : N.dot (s.sub p) = 0 := by have := h p hp; have := h s hs; simp only [Pt.dot, Pt.sub] at *; grind
 unfold vol
 generalize q.sub p = u at *
 generalize r.sub p = v at *
 generalize s.sub p = t at *
 have h4 := hang u v t N N
 have h5 : tri u v t * N.dot N = 0 := by
  rw [<- h4]
  have e1 : u.dot N = 0 := by rw [<- h1]; simp only [Pt.dot]; grind
  have e2 : v.dot N = 0 := by rw [<- h2]; simp only [Pt.dot]; grind
  have e3 : t.dot N = 0 := by rw [<- h3]; simp only [Pt.dot]; grind
  rw [e1, e2, e3]
  simp
 exact (Int.mul_eq_zero.1 h5).resolve_right (self_pos hN)
theorem apart_tri {L : List Pt} {b c N1 N2 a1 a2 : Pt} (h1 : Sd L b c N1 a1) (h2 : Sd L b c N2 a2) (nf : ¬ flatAll L) (he : c.sub b ≠ Pt.O) (i1 : N1.inB 4398046511104 = true) (i2 : N2.inB 4398046511104 = true) (hne : N1.short ≠ N2.short) : tri N1 N2 (c.sub b) ≠ 0 := by
 intro h
 have hx := same_way he h1.sq h2.sq h
 have hdn : N1.dot N2 ≠ 0 := fun e => by
  have k : N1.dot N1 * N2.dot N2 = 0 := by
   simp only [Pt.cross, Pt.O, Pt.mk.injEq] at hx
   obtain ⟨c1, c2, c3⟩ := hx
   simp only [Pt.dot] at *
   grind
  rcases Int.mul_eq_zero.1 k with k | k
  ·exact self_pos h1.ne k
  ·exact self_pos h2.ne k
 rcases Int.lt_or_gt_of_ne hdn with hd | hd
 ·apply nf
  refine flat_of (b := b) h1.ne fun x hxL => ?_
  have l1 := h1.le x hxL
  have l2 := h2.le x hxL
  generalize x.sub b = y at *
  have k : N1.dot N2 * N1.dot y = N1.dot N1 * N2.dot y := by
   simp only [Pt.cross, Pt.O, Pt.mk.injEq] at hx
   obtain ⟨c1, c2, c3⟩ := hx
   simp only [Pt.dot] at *
   grind
  have k1 : 0 <= N1.dot N2 * N1.dot y := by have := Int.mul_nonneg (a := -(N1.dot N2)) (b := -(N1.dot y)) (by omega) (by omega); rwa [Int.neg_mul_neg] at this
  have k2 : N1.dot N1 * N2.dot y <= 0 := by
   have q : 0 <= N1.dot N1 := by
    simp only [Pt.dot]
    have q : ∀ t : Int, 0 <= t * t := fun t => by rcases Int.le_total 0 t with h | h; exact Int.mul_nonneg h h; have := Int.mul_nonneg (a := -t) (b := -t) (by omega) (by omega); rwa [Int.neg_mul_neg] at this
    have := q N1.x
    have := q N1.y
    have := q N1.z
    omega
   have := Int.mul_nonneg q (show 0 <= -(N2.dot y) by omega)
   rw [Int.mul_neg] at this
   omega
  exact (Int.mul_eq_zero.1 (show N1.dot N2 * N1.dot y = 0 by omega)).resolve_left hdn
 ·exact hne (short_same h1.ne h2.ne hx hd i1 i2)
theorem tri_turn (a b c : Pt) : (c.sub b).cross (a.sub b) = (b.sub a).cross (c.sub a) := by
 simp only [Pt.cross, Pt.sub, Pt.mk.injEq]
 refine ⟨by grind, by grind, by grind⟩
theorem gives_sd {L : List Pt} {a b c q : Pt} (h : Gives L a b c q) (ha : a ∈ L) : ∃ N, Sd L b c N a /\ q = N.short /\ (N = (b.sub a).cross (c.sub a) \/ N = ((b.sub a).cross (c.sub a)).neg) := by
 obtain ⟨h1, h2, h3⟩ := h
 have t := tri_turn a b c
 have e1 : ((b.sub a).cross (c.sub a)).dot (c.sub b) = 0 := by simp only [Pt.dot, Pt.cross, Pt.sub]; grind
 have e2 : ((b.sub a).cross (c.sub a)).dot (a.sub b) = 0 := by simp only [Pt.dot, Pt.cross, Pt.sub]; grind
 have e3 : ∀ x : Pt, ((b.sub a).cross (c.sub a)).dot (x.sub b) = ((b.sub a).cross (c.sub a)).dot (x.sub a) := fun x => by simp only [Pt.dot, Pt.cross, Pt.sub]; grind
 have ng : ∀ p q : Pt, p.neg.dot q = -(p.dot q) := fun p q => by simp only [Pt.dot, Pt.neg]; grind
 have nO : ∀ p : Pt, p ≠ Pt.O -> p.neg ≠ Pt.O := fun p hp e => hp (by cases p; simp only [Pt.neg, Pt.O, Pt.mk.injEq] at *; omega)
 cases ha2 : above L ((b.sub a).cross (c.sub a)) a with
 | true =>
  rw [ha2] at h3 h2
  have hb : below L ((b.sub a).cross (c.sub a)) a = false := by
   cases hb : below L ((b.sub a).cross (c.sub a)) a with
   | false => rfl
   | true => exact absurd ⟨rfl, hb⟩ h2
  unfold below at hb
  rw [List.any_eq_false] at hb
  refine ⟨((b.sub a).cross (c.sub a)).neg, ⟨nO _ h1, by rw [ng, e1]; rfl, fun x hx => ?_, ha, by rw [ng, e2]; rfl, Or.inr (by rw [t])⟩, h3, Or.inr rfl⟩
  have := hb x hx
  simp only [decide_eq_true_eq] at this
  rw [ng, e3]
  omega
 | false =>
  rw [ha2] at h3
  unfold above at ha2
  rw [List.any_eq_false] at ha2
  refine ⟨(b.sub a).cross (c.sub a), ⟨h1, e1, fun x hx => ?_, ha, e2, Or.inl t.symm⟩, h3, Or.inl rfl⟩
  have := ha2 x hx
  simp only [decide_eq_true_eq] at this
  rw [e3]
  omega
theorem outer_inv (L : List Pt) (I : List Pt × List Pt -> Prop) (st : ∀ a b c s, List.Sublist [a, b, c] L -> I s -> I (triP L a b c s)) : ∀ (M : List Pt) (s : List Pt × List Pt), List.Sublist M L -> I s -> I (outerP L M s)
 | [], s, _, h => h
 | a :: r, s, hs, h => by
  have inner : ∀ (b : Pt) (M : List Pt) (s : List Pt × List Pt), (∀ c ∈ M, List.Sublist [a, b, c] L) -> I s -> I (innerP L a b M s) := by
   intro b M
   induction M with
   | nil => intro s _ h; exact h
   | cons c r ih => intro s hc h; exact ih _ (fun c hc' => hc c (List.mem_cons_of_mem _ hc')) (st a b c s (hc c List.mem_cons_self) h)
  have mid : ∀ (M : List Pt) (s : List Pt × List Pt), List.Sublist (a :: M) L -> I s -> I (midP L a M s) := by
   intro M
   induction M with
   | nil => intro s _ h; exact h
   | cons b r ih =>
    intro s hM h
    refine ih _ (List.Sublist.trans ?_ hM) (inner b r s (fun c hc => List.Sublist.trans ?_ hM) h)
    ·exact List.Sublist.cons_cons _ (List.sublist_cons_self _ _)
    ·exact List.Sublist.cons_cons _ (List.Sublist.cons_cons _ (List.singleton_sublist.2 hc))
  exact outer_inv L I st r _ (List.Sublist.trans (List.sublist_cons_self _ _) hs) (mid r s hs h)
theorem axis_nodup {A : List Pt} {n : Pt} (h : A.Nodup) : (withAxisP A n).Nodup := by
 unfold withAxisP
 split
 ·exact h
 ·next hn => exact List.nodup_append.2 ⟨h, by simp, fun x hx y hy e => by simp at hy; subst hy; subst e; exact hn hx⟩
def Eds (L E : List Pt) : Prop := E.Nodup /\ ∀ e ∈ E, ∃ p ∈ pairsL L, e = (p.2.sub p.1).short
theorem edge_eds {L E : List Pt} {a b : Pt} (h : Eds L E) (hs : List.Sublist [a, b] L) : Eds L (withEdgeP E (b.sub a)) := by
 unfold withEdgeP
 split
 ·exact h
 ·next hn =>
  rw [not_or] at hn
  refine ⟨List.nodup_append.2 ⟨h.1, by simp, fun x hx y hy e => by simp at hy; subst hy; subst e; exact hn.1 hx⟩, fun e he => ?_⟩
  rcases List.mem_append.1 he with he | he
  ·exact h.2 e he
  ·simp at he
   exact ⟨(a, b), pairs_mem hs, he⟩
theorem sides_eds (L : List Pt) : (sidesP L).1.Nodup /\ Eds L (sidesP L).2 := by
 unfold sidesP
 refine outer_inv L (fun s => s.1.Nodup /\ Eds L s.2) ?_ L _ (List.Sublist.refl _) ⟨by simp, by simp [Eds]⟩
 intro a b c s hs h
 unfold triP
 dsimp only
 split
 ·exact h
 ·refine ⟨axis_nodup h.1, ?_⟩
  have s1 : List.Sublist [a, b] L := List.Sublist.trans (by simp) hs
  have s2 : List.Sublist [a, c] L := List.Sublist.trans (List.Sublist.cons_cons _ (List.Sublist.cons _ (List.Sublist.refl _))) hs
  have s3 : List.Sublist [b, c] L := List.Sublist.trans (List.Sublist.cons _ (List.Sublist.refl _)) hs
  exact edge_eds (edge_eds (edge_eds h.2 s1) s2) s3
theorem threeOf {α : Type} {M : List α} (h : M.Nodup) (hl : ¬ M.length <= 2) : ∃ x y z, x ∈ M /\ y ∈ M /\ z ∈ M /\ x ≠ y /\ x ≠ z /\ y ≠ z := by
 match M, h, hl with
 | [], _, hl => simp at hl
 | [_], _, hl => simp at hl
 | [_, _], _, hl => simp at hl
 | x :: y :: z :: r, h, _ =>
  simp only [List.nodup_cons, List.mem_cons, not_or] at h
  exact ⟨x, y, z, by simp, by simp, by simp, h.1.1, h.1.2.1, h.2.1.1⟩
theorem twoOf {α : Type} {M : List α} (h : M.Nodup) (hl : ¬ M.length <= 1) : ∃ x y, x ∈ M /\ y ∈ M /\ x ≠ y := by
 match M, h, hl with
 | [], _, hl => simp at hl
 | [_], _, hl => simp at hl
 | x :: y :: r, h, _ =>
  simp only [List.nodup_cons, List.mem_cons, not_or] at h
  exact ⟨x, y, by simp, by simp, h.1.1⟩
theorem pair_tail {a b c x : Pt} {t : List Pt} (h : List.Sublist [a, b, c] (x :: t)) : List.Sublist [b, c] t := by
 rcases List.sublist_cons_iff.1 h with h | ⟨r, e, h⟩
 ·exact List.Sublist.trans (List.sublist_cons_self _ _) h
 ·simp only [List.cons.injEq] at e
  obtain ⟨rfl, rfl⟩ := e
  exact h
open Classical in
theorem axes_count {L : List Pt} (h12 : L.length <= 12) (hin : ∀ p ∈ L, p.inB 65536 = true) (hnd : L.Nodup) (nf : ¬ flatAll L) : (sidesP L).1.length <= 110 := by
 cases L with
 | nil => simp [sidesP, outerP]
 | cons x t =>
  have W : ∀ q ∈ (sidesP (x :: t)).1, ∃ bc : Pt × Pt, bc ∈ pairsL t /\ ∃ a N, Sd (x :: t) bc.1 bc.2 N a /\ q = N.short /\ N.inB 4398046511104 = true /\ bc.2.sub bc.1 ≠ Pt.O := by
   intro q hq
   obtain ⟨a, b, c, hs, g⟩ := mem_sides.1 hq
   have ma : a ∈ x :: t := hs.subset (by simp)
   have mb : b ∈ x :: t := hs.subset (by simp)
   have mc : c ∈ x :: t := hs.subset (by simp)
   obtain ⟨N, hN, e, hc⟩ := gives_sd g ma
   refine ⟨(b, c), pairs_mem (pair_tail hs), a, N, hN, e, ?_, ?_⟩
   ·have ia := (Pt.inB_iff _ _).1 (hin a ma)
    have ib := (Pt.inB_iff _ _).1 (hin b mb)
    have ic := (Pt.inB_iff _ _).1 (hin c mc)
    have k : ((b.sub a).cross (c.sub a)).inB 34359738368 = true := by
     rw [Pt.inB_iff]
     simp only [Pt.cross, Pt.sub]
     have p1 : -131072 <= b.x - a.x /\ b.x - a.x <= 131072 := by omega
     have p2 : -131072 <= b.y - a.y /\ b.y - a.y <= 131072 := by omega
     have p3 : -131072 <= b.z - a.z /\ b.z - a.z <= 131072 := by omega
     have p4 : -131072 <= c.x - a.x /\ c.x - a.x <= 131072 := by omega
     have p5 : -131072 <= c.y - a.y /\ c.y - a.y <= 131072 := by omega
     have p6 : -131072 <= c.z - a.z /\ c.z - a.z <= 131072 := by omega
     have m1 := mul_in p2 p6
     have m2 := mul_in p3 p5
     have m3 := mul_in p3 p4
     have m4 := mul_in p1 p6
     have m5 := mul_in p1 p5
     have m6 := mul_in p2 p4
     omega
    rcases hc with rfl | rfl
    ·exact inB_mono k (by decide)
    ·rw [Pt.inB_iff] at k ⊢
     simp only [Pt.neg]
     omega
   ·intro e9
    exact g.1 (by
     have : (c.sub b).cross (a.sub b) = Pt.O := by show (Pt.cross (c.sub b) _) = _; rw [show c.sub b = Pt.O from e9]; simp [Pt.cross, Pt.O]
     rw [<- tri_turn]; exact this)
  let f : Pt -> Pt × Pt := fun q => if h : ∃ bc : Pt × Pt, bc ∈ pairsL t /\ ∃ a N, Sd (x :: t) bc.1 bc.2 N a /\ q = N.short /\ N.inB 4398046511104 = true /\ bc.2.sub bc.1 ≠ Pt.O then Classical.choose h else (Pt.O, Pt.O)
  have hf : ∀ q ∈ (sidesP (x :: t)).1, f q ∈ pairsL t /\ ∃ a N, Sd (x :: t) (f q).1 (f q).2 N a /\ q = N.short /\ N.inB 4398046511104 = true /\ (f q).2.sub (f q).1 ≠ Pt.O := by
   intro q hq
   have h := W q hq
   have e : f q = Classical.choose h := by simp only [f, dif_pos h]
   rw [e]
   exact Classical.choose_spec h
  have hk := fiber_le f 2 (pairsL t) (sidesP (x :: t)).1 (fun q hq => (hf q hq).1) (fun bc _ => by
   by_cases hl : ((sidesP (x :: t)).1.filter (fun q => decide (f q = bc))).length <= 2
   ·exact hl
   ·exfalso
    obtain ⟨q1, q2, q3, m1, m2, m3, n12, n13, n23⟩ := threeOf (List.Pairwise.filter _ (sides_eds (x :: t)).1) hl
    rw [List.mem_filter] at m1 m2 m3
    have e1 := of_decide_eq_true m1.2
    have e2 := of_decide_eq_true m2.2
    have e3 := of_decide_eq_true m3.2
    obtain ⟨_, a1, N1, s1, z1, i1, ne⟩ := hf q1 m1.1
    obtain ⟨_, a2, N2, s2, z2, i2, _⟩ := hf q2 m2.1
    obtain ⟨_, a3, N3, s3, z3, i3, _⟩ := hf q3 m3.1
    rw [e1] at s1 ne
    rw [e2] at s2
    rw [e3] at s3
    exact no_three s1 s2 s3 (apart_tri s2 s3 nf ne i2 i3 (by rw [<- z2, <- z3]; exact n23)) (apart_tri s3 s1 nf ne i3 i1 (by rw [<- z3, <- z1]; exact Ne.symm n13)) (apart_tri s1 s2 nf ne i1 i2 (by rw [<- z1, <- z2]; exact n12)))
  have := pairs_55 (L := t) (by simp at h12; omega)
  omega
open Classical in
theorem edges_count {L : List Pt} (h12 : L.length <= 12) : (sidesP L).2.length <= 66 := by
 obtain ⟨hn, hw⟩ := (sides_eds L).2
 let f : Pt -> Pt × Pt := fun q => if h : ∃ p ∈ pairsL L, q = (p.2.sub p.1).short then Classical.choose h else (Pt.O, Pt.O)
 have hf : ∀ q ∈ (sidesP L).2, f q ∈ pairsL L /\ q = ((f q).2.sub (f q).1).short := by
  intro q hq
  have h := hw q hq
  have e : f q = Classical.choose h := by simp only [f, dif_pos h]
  rw [e]
  exact Classical.choose_spec h
 have hk := fiber_le f 1 (pairsL L) (sidesP L).2 (fun q hq => (hf q hq).1) (fun bc _ => by
  by_cases hl : ((sidesP L).2.filter (fun q => decide (f q = bc))).length <= 1
  ·exact hl
  ·exfalso
   obtain ⟨q1, q2, m1, m2, n12⟩ := twoOf (List.Pairwise.filter _ hn) hl
   rw [List.mem_filter] at m1 m2
   have e1 := of_decide_eq_true m1.2
   have e2 := of_decide_eq_true m2.2
   exact n12 ((hf q1 m1.1).2.trans (by rw [e1, <- e2]; exact (hf q2 m2.1).2.symm)))
 have := pairs_66 h12
 omega
end
section
open Go.RowKit Go.Shelf
theorem dirs_len (m : M9) (A : List Pt) : (m.dirs A).length <= A.length := by
 unfold M9.dirs
 have := List.length_filter_le (fun p => decide (p ≠ Pt.O)) (A.map m.dirV)
 rw [List.length_map] at this
 exact this
theorem dirs_in (m : M9) (A : List Pt) : ∀ p ∈ m.dirs A, p.inB 1048576 = true := by
 intro p hp
 unfold M9.dirs at hp
 rw [List.mem_filter, List.mem_map] at hp
 obtain ⟨⟨x, _, rfl⟩, _⟩ := hp
 exact short_in _
theorem nodup_ne {L : List Pt} (h2 : 2 <= L.length) (h : L.Nodup) : pt L 0 ≠ pt L 1 := by
 match L, h2, h with
 | a :: b :: r, _, h =>
  intro e
  have e2 : a = b := e
  subst e2
  simp at h
theorem good_few {s : Sh} (h : Good s) : (axesP s).length <= 110 /\ (edgesP s).length <= 66 := by
 unfold axesP edgesP
 by_cases h3 : s.kind = 3
 ·have h2 : ¬ s.kind = 2 := by omega
  rw [if_pos h3, if_neg h2, if_pos h3]
  exact ⟨by decide, by decide⟩
 ·rw [if_neg h3]
  by_cases h4 : s.kind = 4
  ·have h2 : ¬ s.kind = 2 := by omega
   rw [if_pos h4, if_neg h2, if_neg h3, if_pos h4]
   have hk := h.ok
   unfold checkP at hk
   cases hf : formP s with
   | false => rw [hf] at hk; simp at hk
   | true =>
    rw [hf] at hk
    obtain ⟨l4, l12, hin, hnd⟩ := may_parts (form_hull hf h4)
    have nf : ¬ flatAll s.pts := by
     intro hfl
     have hne := nodup_ne (by omega) hnd
     have := (flatP_iff (by omega) hne).2 hfl
     simp [h4, this] at hk
    exact ⟨axes_count l12 hin hnd nf, edges_count l12⟩
  ·rw [if_neg h4]
   refine ⟨by simp, ?_⟩
   rw [if_neg h3, if_neg h4]
   split <;> simp
theorem came_may {s : Sh} {t : Pt} {q : Q4} {P2 A2 E2 : List Pt} (h : Good s) (hc : Came t q (ptsP s) (axesP s) (edgesP s) P2 A2 E2) : mayC ⟨P2, A2, E2, s.radius⟩ = true := by
 obtain ⟨f1, f2⟩ := good_few h
 have g1 := gd_len h
 have g2 := gd_pts h
 have a1 : A2.length <= 128 := by rw [hc.a]; have := dirs_len (rowsM q) (axesP s); omega
 have e1 : E2.length <= 128 := by rw [hc.e]; have := dirs_len (rowsM q) (edgesP s); omega
 have a2 : ∀ p ∈ A2, p.inB 1048576 = true := by rw [hc.a]; exact dirs_in _ _
 have e2 : ∀ p ∈ E2, p.inB 1048576 = true := by rw [hc.e]; exact dirs_in _ _
 have p2 : ∀ p ∈ P2, p.inB 16777216 = true := fun p hp => inB_mono (hc.near p hp) (by decide)
 have l1 := hc.len
 have r1 := h.r
 unfold mayC
 simp only [Bool.and_eq_true, decide_eq_true_eq, List.all_eq_true]
 exact ⟨⟨⟨⟨by omega, p2⟩, a1, a2⟩, e1, e2⟩, by omega⟩
def mayN (c : Cr) : Prop := mayC c = true /\ c.P.length <= 12 /\ ∀ p ∈ c.P, p.inB 8388608 = true
theorem came_near {s : Sh} {t : Pt} {q : Q4} {P2 A2 E2 : List Pt} (h : Good s) (hc : Came t q (ptsP s) (axesP s) (edgesP s) P2 A2 E2) : mayN ⟨P2, A2, E2, s.radius⟩ :=
 ⟨came_may h hc, by have := gd_len h; have := hc.len; show P2.length <= 12; omega, hc.near⟩
theorem rplace_right (t : Pt) (q : Q4) (ht : t.inB 5497558138880 = true) (hw : WM.Whole q.w q.x q.y q.z) (P A E : List Pt) (h0 : 0 < P.length) (hP : ∀ p ∈ P, p.inB 65536 = true) (hA : ∀ p ∈ A, p ≠ Pt.O /\ p.short = p) (hE : ∀ p ∈ E, p ≠ Pt.O /\ p.short = p) (nP : P.length < 1099511627776) (nA : A.length < 1099511627776) (nE : E.length < 1099511627776)
  (r : Int) (o o2 o3 : Option Addr) (c c2 c3 : Nat) (W : World) (l1 : Lies W (.slice o P.length c) P) (l2 : Lies W (.slice o2 A.length c2) A) (l3 : Lies W (.slice o3 E.length c3) E) :
  Calls Tryz.prog 26 #[.agg #[.slice o P.length c, .slice o2 A.length c2, .slice o3 E.length c3, .int .i64 r], poseV t q] W fun e W' => ∃ (P2 A2 E2 : List Pt) (vp va ve : Value), e = .returned (.tuple #[.agg #[vp, va, ve, .int .i64 r], .bool true]) /\ Three W W' vp va ve P2 A2 E2 /\ Came t q P A E P2 A2 E2 := by
 have hc := rplace_any t q P A E r _ _ _ W l1 l2 l3 nP nA nE
 rw [place_ok hw ht h0 hP (fun p hp => (short_g (hA p hp).1 (hA p hp).2).2) (fun p hp => (short_g (hE p hp).1 (hE p hp).2).2)] at hc
 refine Calls.mono hc ?_
 rintro e W' ⟨vp, va, ve, _, h⟩
 obtain ⟨rfl, h3⟩ := h rfl
 refine ⟨_, _, _, vp, va, ve, rfl, h3, rfl, rfl, rfl, List.length_map _, fun p hp => ?_⟩
 obtain ⟨x, hx, rfl⟩ := List.mem_map.1 hp
 obtain ⟨_, _, _, _, _, e9⟩ := point_some (rows_fit hw).2 ht (hP x hx)
 exact e9
end
end Go.Proofs.YtffjifhojedmkaaGreat
