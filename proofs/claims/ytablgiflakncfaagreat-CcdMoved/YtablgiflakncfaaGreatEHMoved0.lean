/- Plain mathematics of layer 11: trails, casts, what is nearest. No program in sight. -/
import Derived.Test.YtablgiflakncfaaGreatBBW5
import Derived.Test.YtablgiflakncfaaGreatBBW4
import Derived.Test.YtablgiflakncfaaGreatBBW0
import Derived.Test.YtablgiflakncfaaGreatProg
import Derived.WalkKit
import Derived.Orders
import Derived.Below
import Derived.Laws.Rows
import Derived.Test.YtablgiflakncfaaGreatBBW3
import Derived.Test.YtablgiflakncfaaGreatBBW2
import Derived.Test.YtablgiflakncfaaGreatBBW1
import Derived.RangeFuncNested
import Derived.RangeFuncBound
import Derived.RangeFuncCalls
import Derived.RangeFuncLeaves
import Derived.RangeFuncBox
import Derived.Shelf.Abstract
import Derived.OwnWalkIn
import Derived.TacticsInMore
import Derived.LoopNIn
import Derived.LoopIn
import Derived.LoopTactic
import Derived.ProofKit
import Derived.Handy
import Derived.Laws.MakeOwn
import Derived.Laws.OwnMore
import Derived.Maps.AppendAt
import Derived.Deep.RegionWith
import Derived.Deep.QuietTactic
import Derived.BigQuiet
import Derived.Deep.CutBlock
import Derived.Deep.CutRange
import Derived.Deep.LoopGhost
import Derived.Lib.SmallJoins
import Derived.RowKit
import Derived.Scope
import Derived.OrdersIn
import Derived.Sort.CutIn
import Derived.Test.YtablgiflakncfaaGreatBBW11
import Derived.Test.YtablgiflakncfaaGreatBBW12
import Derived.Test.YtablgiflakncfaaGreatBBW10
import Derived.Test.YtablgiflakncfaaGreatBBW9
import Derived.Test.YtablgiflakncfaaGreatBBW6
import Derived.OneCell
import Derived.WalkMore
import Derived.Lib.BufferMore
import Derived.Test.YtablgiflakncfaaGreatBBW8
import Derived.Test.YtablgiflakncfaaGreatBBW7
import Derived.Laws.MathBits
import Derived.Laws.Externs
import Derived.Laws.BitsAllLaws
import Derived.WalkLawsBesides
import Derived.Lib.AppendZeros
import Derived.Test.YtablgiflakncfaaGreatBBW23
import Derived.Test.YtablgiflakncfaaGreatBBW13
import Derived.Deep.MidRow
import Derived.Deep.Onto
import Derived.OpenShut
import Derived.Test.YtablgiflakncfaaGreatBBW22
import Derived.Test.YtablgiflakncfaaGreatBBW17
import Derived.Test.YtablgiflakncfaaGreatBBW14
import Derived.Test.YtablgiflakncfaaGreatBBW16
import Derived.Test.YtablgiflakncfaaGreatBBW15
import Derived.Deep.RegionHeld3
import Derived.Test.YtablgiflakncfaaGreatBBW19
import Derived.Test.YtablgiflakncfaaGreatBBW18
import Derived.Test.YtablgiflakncfaaGreatBBW21
import Derived.Test.YtablgiflakncfaaGreatBBW20
namespace Go.Proofs.YtablgiflakncfaaGreat
set_option linter.unusedVariables false

theorem keep_len (L : List Pt) : (keepD L).length ≤ 128 := by unfold keepD; rw [List.length_take]; omega
theorem keep_mem {L : List Pt} {p : Pt} (h : p ∈ keepD L) : p ∈ L := (List.mem_filter.1 (List.mem_of_mem_take h)).1
theorem mov_between {p w : Pt} {k m : Int} (hk : 0 ≤ k ∧ k ≤ 16) (h0 : p.inB m = true) (h1 : (p.mov w).inB m = true) : (p.mov (wayBy w k)).inB m = true := by
  rw [Pt.inB_iff] at *
  unfold Pt.mov wayBy at *
  dsimp only at *
  have hx := part_between (x := w.x) hk
  have hy := part_between (x := w.y) hk
  have hz := part_between (x := w.z) hk
  omega
/-- A Trail may be where its points may be. -/
theorem trail_may {a : Cr} {w : Pt} (h : goB a w = true) {k : Int} (hk : 0 ≤ k ∧ k ≤ 16) : mayC (trailC a w k) = (a.P.map (·.mov (wayBy w k))).all (·.inB 16777216) := by
  obtain ⟨h1, h2, h3, h4, h5, h6⟩ := go_parts h
  have e : trailC a w k = ⟨a.P ++ a.P.map (·.mov (wayBy w k)), keepD (a.A ++ a.E.map (fun e => (e.cross w.short).short)), keepD (a.E ++ [w.short]), a.r⟩ := by unfold trailC; rw [h, decide_eq_true hk]; rfl
  rw [e]
  unfold mayC at h1 ⊢
  dsimp only
  rw [Bool.eq_iff_iff]
  simp only [Bool.and_eq_true, decide_eq_true_eq, List.all_eq_true, List.length_append, List.length_map] at h1 ⊢
  refine ⟨fun g p hp => g.1.1.1.2 p (List.mem_append_right _ hp), fun g => ⟨⟨⟨⟨by omega, fun p hp => ?_⟩, ⟨keep_len _, fun p hp => ?_⟩⟩, ⟨keep_len _, fun p hp => ?_⟩⟩, h1.2⟩⟩
  · rcases List.mem_append.1 hp with hp | hp
    · exact h4 p hp
    · exact g p hp
  · rcases List.mem_append.1 (keep_mem hp) with hp | hp
    · exact h5 p hp
    · obtain ⟨e, _, rfl⟩ := List.mem_map.1 hp
      exact short_in _
  · rcases List.mem_append.1 (keep_mem hp) with hp | hp
    · exact h6 p hp
    · rw [List.mem_singleton.1 hp]
      exact short_in _
theorem trail_of {a b : Cr} {w : Pt} (h : castB a w b = true) {k : Int} (hk : 0 ≤ k ∧ k ≤ 16) : mayC (trailC a w k) = true := by
  unfold castB at h
  simp only [Bool.and_eq_true] at h
  rw [trail_may h.1.1 hk, List.all_eq_true]
  intro p hp
  obtain ⟨q, hq, rfl⟩ := List.mem_map.1 hp
  exact mov_between hk ((go_parts h.1.1).2.2.2.1 q hq) (List.all_eq_true.1 h.1.2 _ (List.mem_map.2 ⟨q, hq, rfl⟩))
theorem cast_parts {a b : Cr} {w : Pt} (h : castB a w b = true) : goB a w = true ∧ mayC a = true ∧ mayC b = true := by
  unfold castB at h
  simp only [Bool.and_eq_true] at h
  exact ⟨h.1.1, (go_parts h.1.1).1, h.2⟩
end Go.Proofs.YtablgiflakncfaaGreat

namespace Go.Proofs.YtablgiflakncfaaGreat
namespace NM
set_option linter.unusedVariables false

theorem sub_by (t p q : Pt) : (by_ t q).sub (by_ t p) = q.sub p := by
  unfold by_ Pt.sub
  dsimp only
  congr 1 <;> omega
theorem dot_by (n t p : Pt) : n.dot (by_ t p) = n.dot p + n.dot t := by
  unfold by_ Pt.dot
  dsimp only
  simp only [Int.mul_add]
  omega
theorem pt_by (t : Pt) (P : List Pt) {k : Nat} (h : k < P.length) : pt (P.map (by_ t)) k = by_ t (pt P k) := pt_map h
theorem loK_by (n t : Pt) (P : List Pt) : ∀ k, k < P.length → loK n (P.map (by_ t)) k = loK n P k + n.dot t
  | 0, h => by simp only [loK]; rw [pt_by t P h, dot_by]
  | k + 1, h => by simp only [loK]; rw [pt_by t P h, dot_by, loK_by n t P k (by omega)]; omega
theorem hiK_by (n t : Pt) (P : List Pt) : ∀ k, k < P.length → hiK n (P.map (by_ t)) k = hiK n P k + n.dot t
  | 0, h => by simp only [hiK]; rw [pt_by t P h, dot_by]
  | k + 1, h => by simp only [hiK]; rw [pt_by t P h, dot_by, hiK_by n t P k (by omega)]; omega
theorem told_by (t : Pt) (a b : Cr) (ha : 0 < a.P.length) (hb : 0 < b.P.length) : told ⟨a.P.map (by_ t), a.A, a.E, a.r⟩ ⟨b.P.map (by_ t), b.A, b.E, b.r⟩ = told a b := by
  have hr : ∀ n, room n (a.P.map (by_ t)) (b.P.map (by_ t)) = room n a.P b.P := fun n => by
    unfold room loP hiP
    rw [List.length_map, List.length_map, loK_by n t b.P _ (by omega), hiK_by n t a.P _ (by omega)]
    omega
  have hg : gapZ (a.P.map (by_ t)) (b.P.map (by_ t)) a.r b.r = gapZ a.P b.P a.r b.r := by
    funext n
    unfold gapZ gap0
    rw [hr]
  have hw : ∀ EE, wayL (a.P.map (by_ t)) (b.P.map (by_ t)) EE = wayL a.P b.P EE := fun EE => by
    unfold wayL
    rw [List.length_map, List.length_map]
    split
    · rfl
    · rw [List.flatMap_map]
      congr 1
      funext p
      unfold wayR
      rw [List.flatMap_map]
      congr 1
      funext q
      unfold wayG wayD
      rw [sub_by]
  have hc : candL ⟨a.P.map (by_ t), a.A, a.E, a.r⟩ ⟨b.P.map (by_ t), b.A, b.E, b.r⟩ = candL a b := by
    unfold candL
    dsimp only
    rw [hw]
  unfold told
  rw [hc]
  dsimp only
  rw [hg]
end NM
end Go.Proofs.YtablgiflakncfaaGreat
namespace Go.Proofs.YtablgiflakncfaaGreat
set_option linter.unusedVariables false
set_option maxRecDepth 100000

/-! ### Chapter 18's examples -/
/-! ### Balls, ways and shapes that may be -/
def V3.m43 (v : V3) : Prop := (-8796093022208 ≤ v.x ∧ v.x ≤ 8796093022208) ∧ (-8796093022208 ≤ v.y ∧ v.y ≤ 8796093022208) ∧ (-8796093022208 ≤ v.z ∧ v.z ≤ 8796093022208)
theorem V3.m42.wide {v : V3} (h : v.m42) : v.m43 := by unfold V3.m42 at h; unfold V3.m43; omega
theorem shot_cast {g t : V3} {r : Int} {c : Cr} (hg : g.m43) (ht : g.n38 t) (hr : 1 ≤ r ∧ r ≤ 16384) (hc : mayC c = true) : castB (ballC g r) (wayZ g t) c = true ∧ mayC (ballC g r) = true := by
  unfold V3.m43 V3.n38 at *
  have h1 : (grn g).inB 16777216 = true := by rw [Pt.inB_iff]; unfold grn; dsimp only; omega
  have h2 : ((grn g).mov (wayZ g t)).inB 16777216 = true := by rw [Pt.inB_iff]; unfold grn wayZ grn Pt.mov Pt.sub; dsimp only; omega
  have h3 : (wayZ g t).inB 4194304 = true := by rw [Pt.inB_iff]; unfold wayZ grn Pt.sub; dsimp only; omega
  constructor
  · unfold castB goB ballC
    simp only [Bool.and_eq_true, decide_eq_true_eq, List.all_eq_true, List.length_singleton, List.length_nil, List.map_cons, List.map_nil, List.mem_singleton]
    refine ⟨⟨⟨⟨⟨⟨⟨⟨by omega, by omega⟩, fun p hp => (by rw [hp]; exact h1)⟩, by omega, fun p hp => (by cases hp)⟩, by omega, fun p hp => (by cases hp)⟩, by omega, by omega⟩, h3⟩, fun p hp => (by rw [hp]; exact h2)⟩, hc⟩
  · unfold mayC ballC
    simp only [Bool.and_eq_true, decide_eq_true_eq, List.all_eq_true, List.length_singleton, List.length_nil, List.mem_singleton]
    refine ⟨⟨⟨⟨⟨by omega, by omega⟩, fun p hp => (by rw [hp]; exact h1)⟩, by omega, fun p hp => (by cases hp)⟩, by omega, fun p hp => (by cases hp)⟩, by omega, by omega⟩
/-! ### A wall behind -/
end Go.Proofs.YtablgiflakncfaaGreat
namespace Go.Proofs.YtablgiflakncfaaGreat
open Go.RowKit Go.Shelf
set_option linter.unusedVariables false

theorem far_new {W : World} {base n m : Nat} {v u : Value} {xs ys : List Value} {t : TypeId} {sz : Nat} {A : World} (h : W.ownsRow A.heap.size 45 3 v n xs) (hu : A.ownsRow base t sz u m ys) (L : List Pt) : farB u.ownBlock v L := fun q k c e _ e' => by
  subst e
  have h1 := (h.lt q.block rfl).1
  have h2 := (hu.lt q.block e').2
  omega
section
variable {V w w' : World} {ob : Option Nat} {Ok : Cr → Prop} {ic ib st : Nat} {γ : Nat → Value} {L : Nat → Bool}
end
end Go.Proofs.YtablgiflakncfaaGreat
namespace Go.Proofs.YtablgiflakncfaaGreat
open Go.ChangeShapes Go.WideShapes Go.Deep Go.Joins

section
variable {H : Type} {enc : TypeId × Value → H} {w : World} {base : Nat} {spare : Nat → Bool} {held : Bool}

set_option maxRecDepth 100000 in
theorem open_point {r : Reach} {b0 : Nat} {v : Value} {d : DataW H} {p : List MemPlace} (hv : Value.okWide Tryz.prog w r b0 45 v) (h : DataW.Trod enc Tryz.prog w base spare held 45 v d p) :
    ∃ x y z : Int, v = .agg #[.int .i64 x, .int .i64 y, .int .i64 z] ∧ d = .agg [.lit (.int .i64 x), .lit (.int .i64 y), .lit (.int .i64 z)] ∧ p = [] ∧ (Lit.int .i64 x).wf = true ∧ (Lit.int .i64 y).wf = true ∧ (Lit.int .i64 z).wf = true := by
  obtain ⟨c0, c1, c2, y0, y1, y2, n, rfl, rfl, rfl, t0, t1, t2⟩ := open_agg3 Tryz.underlying45 (by kernel_rfl) (by kernel_rfl) hv h
  obtain ⟨x, rfl, rfl, hx⟩ := lit_of t0
  obtain ⟨y, rfl, rfl, hy⟩ := lit_of t1
  obtain ⟨z, rfl, rfl, hz⟩ := lit_of t2
  exact ⟨x, y, z, rfl, rfl, rfl, hx, hy, hz⟩
end
end Go.Proofs.YtablgiflakncfaaGreat
namespace Go.Proofs.YtablgiflakncfaaGreat
set_option linter.unusedVariables false

def movC (t : Pt) (c : Cr) : Cr := ⟨c.P.map (NM.by_ t), c.A, c.E, c.r⟩
theorem trail_by {t w : Pt} {a : Cr} {k : Int} (hg : goB a w = true) (hg' : goB (movC t a) w = true) (hk : 0 ≤ k ∧ k ≤ 16) : trailC (movC t a) w k = movC t (trailC a w k) := by
  rw [trail_yes hg hk, trail_yes hg' hk]
  unfold movC
  dsimp only
  congr 1
  rw [List.map_append, List.map_map, List.map_map]
  congr 1
  refine List.map_congr_left fun p _ => ?_
  show Pt.mov (NM.by_ t p) (wayBy w k) = NM.by_ t (p.mov (wayBy w k))
  unfold NM.by_ Pt.mov
  dsimp only
  congr 1 <;> omega
theorem apP_by {t : Pt} {a b : Cr} (ha : mayC a = true) (hb : mayC b = true) (ha' : mayC (movC t a) = true) (hb' : mayC (movC t b) = true) : apP (movC t a) (movC t b) = apP a b := by
  unfold apP
  rw [ha, hb, ha', hb', Bool.and_self, if_pos rfl, if_pos rfl]
  exact NM.told_by t a b (may_facts ha).1 (may_facts hb).1
theorem castF_by {t w : Pt} {a b : Cr} (hc : castB a w b = true) (hc' : castB (movC t a) w (movC t b) = true) : ∀ (n k : Nat) (x : Pt × Int), k + n ≤ 16 → castF (movC t a) w (movC t b) n k x = castF a w b n k x
  | 0, k, x, _ => rfl
  | n + 1, k, x, h => by
    have e : apP (trailC (movC t a) w ((k : Int) + 1)) (movC t b) = apP (trailC a w ((k : Int) + 1)) b := by
      have h1 := trail_of hc (k := (k : Int) + 1) (by omega)
      have h2 := trail_of hc' (k := (k : Int) + 1) (by omega)
      rw [trail_by (cast_parts hc).1 (cast_parts hc').1 (by omega)] at h2 ⊢
      exact apP_by h1 (cast_parts hc).2.2 h2 (cast_parts hc').2.2
    unfold castF
    rw [e, castF_by hc hc' n (k + 1) _ (by omega)]
theorem castR_by {t w : Pt} {a b : Cr} (hc : castB a w b = true) (hc' : castB (movC t a) w (movC t b) = true) : castR (movC t a) w (movC t b) = castR a w b := by
  unfold castR
  rw [hc, hc', if_pos rfl, if_pos rfl, apP_by (cast_parts hc).2.1 (cast_parts hc).2.2 (cast_parts hc').2.1 (cast_parts hc').2.2, castF_by hc hc' 16 0 _ (by omega)]
theorem holdK_by {t w : Pt} {a : Cr} {L : List Cr} : ∀ n, n ≤ L.length → (∀ i, i < n → castB a w (cr L i) = true ∧ castB (movC t a) w (movC t (cr L i)) = true) → holdK (movC t a) w (L.map (movC t)) n = holdK a w L n
  | 0, _, _ => rfl
  | n + 1, hn, h => by
    obtain ⟨h1, h2⟩ := h n (by omega)
    have e : cr (L.map (movC t)) n = movC t (cr L n) := by
      unfold cr
      rw [List.getElem?_map, List.getElem?_eq_getElem (by omega)]
      rfl
    unfold holdK holdP
    rw [e, castR_by h1 h2, h1, h2, holdK_by n (by omega) fun i hi => h i (by omega)]
/-- By whole grains. -/
def addG (v : V3) (d : Pt) : V3 := ⟨v.x + d.x * 1048576, v.y + d.y * 1048576, v.z + d.z * 1048576⟩
theorem grn_add (v : V3) (d : Pt) : grn (addG v d) = NM.by_ d (grn v) := by
  unfold grn addG NM.by_
  dsimp only
  congr 1 <;> omega
theorem mov_may {d : Pt} {c : Cr} (h : mayN c) (hd : d.inB 1048576 = true) : mayC (movC d c) = true := by
  obtain ⟨hm, _, hP⟩ := h
  unfold mayC at hm ⊢
  unfold movC
  simp only [Bool.and_eq_true, decide_eq_true_eq, List.all_eq_true, List.length_map] at hm ⊢
  refine ⟨⟨⟨⟨hm.1.1.1.1, fun p hp => ?_⟩, hm.1.1.2⟩, hm.1.2⟩, hm.2⟩
  obtain ⟨q, hq, rfl⟩ := List.mem_map.1 hp
  have h1 := hP q hq
  rw [Pt.inB_iff] at h1 hd ⊢
  unfold NM.by_
  dsimp only
  omega
/-- WHERE THE WORLD's MIDDLE IS BEARS UPON NO BALL. -/
theorem hold_by {g t : V3} {r : Int} {d : Pt} {L : List Cr} (hg : g.m42) (ht : g.n38 t) (hr : 1 ≤ r ∧ r ≤ 16384) (hd : d.inB 1048576 = true) (hL : ∀ c ∈ L, mayN c) :
    holdV (addG g d) (addG t d) r (L.map (movC d)) = (addG (holdV g t r L).1 d, (holdV g t r L).2) ∧ holdN g t r L = false ∧ holdN (addG g d) (addG t d) r (L.map (movC d)) = false := by
  have hd9 := hd
  rw [Pt.inB_iff] at hd9
  have hg' : (addG g d).m43 := by unfold V3.m42 at hg; unfold addG V3.m43; dsimp only; omega
  have ht' : (addG g d).n38 (addG t d) := by unfold V3.n38 at *; unfold addG; dsimp only; omega
  have hb : ballC (addG g d) r = movC d (ballC g r) := by unfold ballC movC; rw [grn_add]; rfl
  have hw : wayZ (addG g d) (addG t d) = wayZ g t := by unfold wayZ; rw [grn_add, grn_add, NM.sub_by]
  have hk : hK (addG g d) (addG t d) r (L.map (movC d)) = hK g t r L := by
    unfold hK
    rw [hb, hw, List.length_map]
    refine holdK_by L.length (Nat.le_refl _) fun i hi => ?_
    have hm : mayN (cr L i) := by unfold cr; rw [List.getElem?_eq_getElem hi]; exact hL _ (List.getElem_mem hi)
    have h1 := (shot_cast hg.wide ht hr hm.1).1
    have h2 := (shot_cast hg' ht' hr (mov_may hm hd)).1
    rw [hb, hw] at h2
    exact ⟨h1, h2⟩
  have i1 : g.in45 ∧ t.in45 := by unfold V3.m42 V3.n38 at *; unfold V3.in45; omega
  have i2 : (addG g d).in45 ∧ (addG t d).in45 := by unfold V3.m42 V3.n38 at *; unfold addG V3.in45; dsimp only; omega
  obtain ⟨a1, a2⟩ := hold_small r L i1.1 i1.2
  obtain ⟨b1, b2⟩ := hold_small r (L.map (movC d)) i2.1 i2.2
  refine ⟨?_, a2, b2⟩
  rw [a1, b1, hk]
  dsimp only
  by_cases h : hK g t r L = 16
  · rw [if_pos h, if_pos h]
  · rw [if_neg h, if_neg h]
    unfold addG
    dsimp only
    have key : ∀ a b c k : Int, a + c * 1048576 + (b + c * 1048576 - (a + c * 1048576)) * k / 16 = a + (b - a) * k / 16 + c * 1048576 := fun a b c k => by
      rw [show b + c * 1048576 - (a + c * 1048576) = b - a by omega]
      omega
    rw [key, key, key]
end Go.Proofs.YtablgiflakncfaaGreat
namespace Go.Proofs.YtablgiflakncfaaGreat
open Go.RowKit Go.Shelf
set_option linter.unusedVariables false

theorem Cells.put3 {W : World} {b b' : Nat} {vs : List Value} (h : Cells W b vs) (hne : b ≠ b') (x y z : Value) : Cells (((W.setCell ⟨b', 0, none⟩ x).setCell ⟨b', 1, none⟩ y).setCell ⟨b', 2, none⟩ z) b vs := ((h.apart hne 0 x).apart hne 1 y).apart hne 2 z
end Go.Proofs.YtablgiflakncfaaGreat
namespace Go.Proofs.YtablgiflakncfaaGreat
open Go.RowKit Go.Shelf
set_option linter.unusedVariables false

section
variable {W0 w : World} {ov : Array Value} {rv : Value} {iS iC iA iT : Nat} {γ : Nat → Value} {L : Nat → Bool}
end
theorem cw_flag {W : World} {b : Nat} {v : Value} (hc : W.cell? ⟨b, 0, none⟩ = some v) (hf : W.frozen? ⟨b, 0, none⟩ = false) : CW W b [v] := fun i x e => by
  match i, e with
  | 0, e => cases e; exact ⟨hc, hf⟩
/-- Boxes beside one that is written into. -/
theorem cw_put3 {W : World} {b b' : Nat} {vs : List Value} (h : CW W b vs) (hne : b ≠ b') (x y z : Value) : CW (((W.setCell ⟨b', 0, none⟩ x).setCell ⟨b', 1, none⟩ y).setCell ⟨b', 2, none⟩ z) b vs := Cells.put3 (show Cells W b vs from h) hne x y z
theorem cw_own3 {W : World} {b : Nat} {x0 y0 z0 : Value} (h : CW W b [x0, y0, z0]) (x y z : Value) : CW (((W.setCell ⟨b, 0, none⟩ x).setCell ⟨b, 1, none⟩ y).setCell ⟨b, 2, none⟩ z) b [x, y, z] :=
  (((show Cells W b [x0, y0, z0] from h).set 0 x (by simp)).set 1 y (by simp)).set 2 z (by simp)
end Go.Proofs.YtablgiflakncfaaGreat
namespace Go.Proofs.YtablgiflakncfaaGreat
open Go.RowKit Go.Shelf
set_option linter.unusedVariables false

structure LM (n : Nat) (V : World) (u : Value) (K : List CoK) : Prop where
  row : V.ownsRow n 28 4 u K.length (flK K)
  lie : ∀ k ∈ K, k.lie V
  far : ∀ k ∈ K, k.far u.ownBlock
theorem LM.start (n : Nat) (w : World) : LM n w (.slice none 0 0) [] := ⟨World.ownsRow_nil _ _ _ _, fun k h => (by cases h), fun k h => (by cases h)⟩
theorem LM.step {n : Nat} {V X : World} {u : Value} {K : List CoK} (h : LM n V u K) (hb : Below V.heap.size V X) : LM n X u K :=
  ⟨own_below h.row hb, fun k hk => (h.lie k hk).below hb, h.far⟩
theorem LM.app {n : Nat} {V X : World} {u u' : Value} {K : List CoK} (h : LM n V u K) {k : CoK} (hk : k.lie V) (hf : k.far u.ownBlock) (hr : X.ownsRow n 28 4 u' (K.length + 1) (flK K ++ [k.p, k.a, k.e, .int .i64 k.c.r])) (hg : V.grownBy X u.ownBlock) (hs : u'.ownBlock = u.ownBlock ∨ u'.ownBlock = some V.heap.size) : LM n X u' (K ++ [k]) := by
  have key : ∀ c ∈ K ++ [k], c.lie V ∧ c.far u.ownBlock := fun c hc => by
    rcases List.mem_append.1 hc with hc | hc
    · exact ⟨h.lie c hc, h.far c hc⟩
    · rw [List.mem_singleton.1 hc]; exact ⟨hk, hf⟩
  refine ⟨?_, fun c hc => ?_, fun c hc => ?_⟩
  · rw [flK_append, List.length_append]; exact hr
  · obtain ⟨⟨a1, a2, a3⟩, f1, f2, f3⟩ := key c hc
    exact ⟨lies_far a1 hg f1, lies_far a2 hg f2, lies_far a3 hg f3⟩
  · obtain ⟨⟨a1, a2, a3⟩, f1, f2, f3⟩ := key c hc
    exact ⟨far_same a1 f1 hs, far_same a2 f2 hs, far_same a3 f3 hs⟩
theorem LM.liesC {n : Nat} {V : World} {u : Value} {K : List CoK} (h : LM n V u K) : LiesC V u (K.map CoK.c) := by
  refine ⟨?_⟩
  rw [List.length_map]
  rcases h.row.2 with ⟨rfl, h0⟩ | ⟨g, cap, cur, rfl, hb, hg, h1, h2, h3, h4⟩
  · exact ⟨none, 0, by rw [h0], by omega, by omega, fun i hi => by omega⟩
  · refine ⟨_, cap, rfl, h1, by unfold maxLen at h2; omega, fun i hi => ?_⟩
    obtain ⟨f0, f1, f2, f3⟩ := flK_at K i hi
    have hm : (K[i]?.getD CoK.O) ∈ K := by rw [List.getElem?_eq_getElem hi]; exact List.getElem_mem hi
    obtain ⟨l1, l2, l3⟩ := h.lie _ hm
    have at4 : ∀ j, j < 4 → V.cell? ⟨g, 0 + i * 4 + j, none⟩ = (flK K)[i * 4 + j]? := fun j hj => by rw [Nat.zero_add]; exact h.row.cellAt (i * 4 + j) (by omega)
    rw [cr_map]
    exact ⟨g, 0, _, _, _, rfl, (at4 0 (by decide)).trans f0, (at4 1 (by decide)).trans f1, (at4 2 (by decide)).trans f2, (at4 3 (by decide)).trans f3, l1, l2, l3⟩
/-- A list that lay there before the growing one began. -/
theorem far_old {Y V : World} {n : Nat} {u v : Value} {m : Nat} {ys : List Value} {t : TypeId} {sz : Nat} {L : List Pt} (hu : V.ownsRow n t sz u m ys) (h : Lies Y v L) (hn : Y.heap.size ≤ n) : farB u.ownBlock v L := fun q k c e h0 e' => by
  subst e
  have h1 := Lies.lt h h0
  have h2 := (hu.lt q.block e').1
  omega
theorem heap_put3 {W : World} {b k : Nat} (hne : k ≠ b) (x y z : Value) : (((W.setCell ⟨b, 0, none⟩ x).setCell ⟨b, 1, none⟩ y).setCell ⟨b, 2, none⟩ z).heap[k]? = W.heap[k]? := by
  rw [Below.heap_setCell _ _ _ k hne, Below.heap_setCell _ _ _ k hne, Below.heap_setCell _ _ _ k hne]
theorem hold_inM {g t : V3} {r : Int} {L : List Cr} (hg : g.m42) (ht : g.n38 t) : (holdV g t r L).1.m43 ∧ (holdV g t r L).1.n38 t := by
  have i1 : g.in45 ∧ t.in45 := by unfold V3.m42 at hg; unfold V3.n38 at ht; unfold V3.in45; omega
  obtain ⟨a1, _⟩ := hold_small r L i1.1 i1.2
  have h16 := hold_le (ballC g r) (wayZ g t) L L.length
  rw [a1]
  dsimp only
  have hk : (0 : Int) ≤ (hK g t r L : Nat) ∧ ((hK g t r L : Nat) : Int) ≤ 16 := by unfold hK; omega
  generalize ((hK g t r L : Nat) : Int) = k at *
  unfold V3.m42 at hg
  unfold V3.n38 at ht ⊢
  unfold V3.m43
  split
  · omega
  · dsimp only
    have key : ∀ a b : Int, -274877906944 ≤ b - a → b - a ≤ 274877906944 → -274877906944 ≤ (b - a) * k / 16 ∧ (b - a) * k / 16 ≤ 274877906944 ∧ -274877906944 ≤ b - a - (b - a) * k / 16 ∧ b - a - (b - a) * k / 16 ≤ 274877906944 := fun a b h1 h2 => by
      obtain ⟨d, hd⟩ : ∃ d, d = b - a := ⟨_, rfl⟩
      rw [← hd] at h1 h2 ⊢
      by_cases h0 : 0 ≤ d
      · have p1 := Int.mul_nonneg h0 hk.1
        have p2 := Int.mul_nonneg h0 (show 0 ≤ 16 - k by omega)
        rw [Int.mul_sub] at p2
        omega
      · have p1 := Int.mul_nonneg (show 0 ≤ -d by omega) hk.1
        have p2 := Int.mul_nonneg (show 0 ≤ -d by omega) (show 0 ≤ 16 - k by omega)
        rw [Int.mul_sub, Int.neg_mul, Int.neg_mul] at p2
        rw [Int.neg_mul] at p1
        omega
    have kx := key g.x t.x ht.1.1 ht.1.2
    have ky := key g.y t.y ht.2.1.1 ht.2.1.2
    have kz := key g.z t.z ht.2.2.1 ht.2.2.2
    generalize (t.x - g.x) * k / 16 = px at *
    generalize (t.y - g.y) * k / 16 = py at *
    generalize (t.z - g.z) * k / 16 = pz at *
    omega
theorem cw_grown {W W' : World} {b : Nat} {row : Option Nat} {v : Value} {vs : List Value} (h : CW W b (v :: vs)) (hg : W.grownBy W' row) (hne : row ≠ some b) : CW W' b (v :: vs) := fun i x e => by
  have hbl : W'.heap[b]? = W.heap[b]? := hg.block b (CW.lt h) (fun e' => hne e'.symm)
  exact ⟨(World.cell?_of_block (w := W) (a := ⟨b, i, none⟩) hbl).trans (h i x e).1, (World.frozen?_of_block (w := W) (a := ⟨b, i, none⟩) hbl).trans (h i x e).2⟩
theorem cw_set0 {W : World} {b : Nat} {v : Value} {vs : List Value} (h : CW W b (v :: vs)) (u : Value) : CW (W.setCell ⟨b, 0, none⟩ u) b (u :: vs) := (show Cells W b (v :: vs) from h).set 0 u (by simp)
theorem take_next {L : List Pt} {f : Pt → Pt} {n : Nat} (h : n < L.length) : ((L.take n).map f) ++ [f (pt L n)] = (L.take (n + 1)).map f := by
  rw [List.take_succ_eq_append_getElem h, List.map_append]
  congr 1
  unfold pt
  rw [List.getElem?_eq_getElem h]
  rfl
theorem take_cr {L : List Cr} {f : Cr → Cr} {n : Nat} (h : n < L.length) : ((L.take n).map f) ++ [f (cr L n)] = (L.take (n + 1)).map f := by
  rw [List.take_succ_eq_append_getElem h, List.map_append]
  congr 1
  unfold cr
  rw [List.getElem?_eq_getElem h]
  rfl
end Go.Proofs.YtablgiflakncfaaGreat
