/- Points of grains, and directions made short: plain numbers. -/
import Derived.RowKit
import Derived.Test.YtffjifhojedmkaaGreatProg
import Derived.WalkKit
import Derived.Orders
import Derived.Below
import Derived.Laws.Rows
import Derived.RangeFuncBox
import Derived.Shelf.Abstract
import Derived.OwnWalkIn
import Derived.TacticsInMore
import Derived.LoopNIn
import Derived.LoopIn
import Derived.LoopTactic
import Derived.ProofKit
import Derived.Handy
import Derived.Laws.MakeOwn
import Derived.Laws.OwnMore
import Derived.Maps.AppendAt
import Derived.Deep.RegionWith
import Derived.Deep.QuietTactic
import Derived.BigQuiet
import Derived.Deep.CutBlock
import Derived.Deep.CutRange
import Derived.Deep.LoopGhost
import Derived.Lib.SmallJoins
import Derived.RangeFuncNested
import Derived.RangeFuncBound
import Derived.RangeFuncCalls
import Derived.RangeFuncLeaves
set_option linter.unusedVariables false
namespace Go.Proofs.YtffjifhojedmkaaGreat
section
structure Pt where
 x : Int
 y : Int
 z : Int
 deriving DecidableEq
def Pt.O : Pt := ⟨0, 0, 0⟩
instance : Inhabited Pt := ⟨Pt.O⟩
def Pt.inB (p : Pt) (m : Int) : Bool := decide ((-m <= p.x /\ p.x <= m) /\ (-m <= p.y /\ p.y <= m) /\ (-m <= p.z /\ p.z <= m))
theorem Pt.inB_iff (p : Pt) (m : Int) : p.inB m = true ↔ (-m <= p.x /\ p.x <= m) /\ (-m <= p.y /\ p.y <= m) /\ (-m <= p.z /\ p.z <= m) := by simp [Pt.inB]
theorem Pt.inB_no (p : Pt) (m : Int) : p.inB m = false ↔ ¬ ((-m <= p.x /\ p.x <= m) /\ (-m <= p.y /\ p.y <= m) /\ (-m <= p.z /\ p.z <= m)) := by rw [<- Pt.inB_iff]; simp
def Pt.by (p : Pt) (n : Int) : Pt := ⟨p.x.tdiv n, p.y.tdiv n, p.z.tdiv n⟩
def Pt.neg (p : Pt) : Pt := ⟨-p.x, -p.y, -p.z⟩
def Pt.sub (p q : Pt) : Pt := ⟨p.x - q.x, p.y - q.y, p.z - q.z⟩
def Pt.dot (p q : Pt) : Int := p.x * q.x + p.y * q.y + p.z * q.z
def Pt.cross (p q : Pt) : Pt := ⟨p.y * q.z - p.z * q.y, p.z * q.x - p.x * q.z, p.x * q.y - p.y * q.x⟩
def Pt.g (p : Pt) : Nat := Nat.gcd (Nat.gcd p.x.natAbs p.y.natAbs) p.z.natAbs
def Pt.low (p : Pt) : Pt := if p.g = 0 then p else p.by p.g
def halveF : Nat -> Pt -> Pt
 | 0, p => p
 | n + 1, p => if p.inB 1048576 then p else halveF n (p.by 2)
def Pt.half (p : Pt) : Pt := halveF 43 p
def Pt.short (p : Pt) : Pt := if p.inB 4398046511104 then p.low.half.low else Pt.O
theorem abs_tdiv (a : Int) (n : Nat) : (a.tdiv n).natAbs = a.natAbs / n := Int.natAbs_tdiv a n
theorem tdiv_le (a : Int) (m : Int) (n : Nat) (h : -m <= a /\ a <= m) : -m <= a.tdiv n /\ a.tdiv n <= m := by
 have e := abs_tdiv a n
 have := Nat.div_le_self a.natAbs n
 generalize a.natAbs / n = q at e this
 omega
theorem Pt.by_in {p : Pt} {m : Int} (n : Nat) (h : p.inB m = true) : (p.by n).inB m = true := by
 rw [Pt.inB_iff] at h ⊢
 exact ⟨tdiv_le _ _ _ h.1, tdiv_le _ _ _ h.2.1, tdiv_le _ _ _ h.2.2⟩
theorem Pt.low_in {p : Pt} {m : Int} (h : p.inB m = true) : p.low.inB m = true := by
 unfold Pt.low
 split
 ·exact h
 ·exact Pt.by_in _ h
theorem half_le (a m : Int) (h : -(2 * m) <= a /\ a <= 2 * m) : -m <= a.tdiv 2 /\ a.tdiv 2 <= m := by
 have e : (a.tdiv 2).natAbs = a.natAbs / 2 := abs_tdiv a 2
 omega
theorem half_in {p : Pt} {m : Int} (h : p.inB (2 * m) = true) : (p.by 2).inB m = true := by
 rw [Pt.inB_iff] at h ⊢
 exact ⟨half_le _ _ h.1, half_le _ _ h.2.1, half_le _ _ h.2.2⟩
theorem inB_mono {p : Pt} {m n : Int} (h : p.inB m = true) (k : m <= n) : p.inB n = true := by
 rw [Pt.inB_iff] at h ⊢
 omega
theorem halveF_in (n : Nat) (p : Pt) (h : p.inB (2 ^ n : Nat) = true) : (halveF n p).inB 1048576 = true := by
 induction n generalizing p with
 | zero => exact inB_mono h (by decide)
 | succ n ih =>
  unfold halveF
  split
  ·assumption
  ·refine ih _ (half_in ?_)
   rw [Nat.pow_succ, Nat.mul_comm, Int.natCast_mul] at h
   exact h
theorem half_in20 {p : Pt} (h : p.inB 4398046511104 = true) : p.half.inB 1048576 = true := halveF_in 43 p (inB_mono h (by decide))
theorem halveF_id (n : Nat) (p : Pt) (h : p.inB 1048576 = true) : halveF n p = p := by
 cases n with
 | zero => rfl
 | succ n => simp [halveF, h]
theorem g_zero {p : Pt} : p.g = 0 ↔ p = Pt.O := by
 unfold Pt.g Pt.O
 rw [Nat.gcd_eq_zero_iff, Nat.gcd_eq_zero_iff]
 cases p
 simp only [Pt.mk.injEq]
 omega
theorem g_dvd (p : Pt) : p.g ∣ p.x.natAbs /\ p.g ∣ p.y.natAbs /\ p.g ∣ p.z.natAbs :=
 ⟨Nat.dvd_trans (Nat.gcd_dvd_left _ _) (Nat.gcd_dvd_left _ _), Nat.dvd_trans (Nat.gcd_dvd_left _ _) (Nat.gcd_dvd_right _ _), Nat.gcd_dvd_right _ _⟩
theorem low_g {p : Pt} (h : p ≠ Pt.O) : p.low.g = 1 := by
 have h0 : p.g ≠ 0 := fun e => h (g_zero.1 e)
 obtain ⟨d1, d2, d3⟩ := g_dvd p
 unfold Pt.low
 rw [if_neg h0]
 show Nat.gcd (Nat.gcd (p.x.tdiv p.g).natAbs (p.y.tdiv p.g).natAbs) (p.z.tdiv p.g).natAbs = 1
 rw [abs_tdiv, abs_tdiv, abs_tdiv]
 rw [Nat.gcd_div d1 d2, Nat.gcd_div (Nat.dvd_gcd d1 d2) d3]
 exact Nat.div_self (Nat.pos_of_ne_zero h0)
theorem low_one {p : Pt} (h : p.g = 1) : p.low = p := by
 unfold Pt.low Pt.by
 rw [h]
 simp
theorem short_in (p : Pt) : p.short.inB 1048576 = true := by
 unfold Pt.short
 split
 ·exact Pt.low_in (half_in20 (Pt.low_in (by assumption)))
 ·decide
theorem short_again (p : Pt) : p.short.short = p.short := by
 have hin := short_in p
 have big : p.short.inB 4398046511104 = true := inB_mono hin (by decide)
 have key : p.short.low = p.short := by
  unfold Pt.short
  split
  ·by_cases h : p.low.half = Pt.O
   ·rw [h]; decide
   ·exact low_one (low_g h)
  ·decide
 rw [Pt.short, if_pos big, key]
 rw [show p.short.half = p.short from halveF_id _ _ hin, key]
theorem neg_in (p : Pt) (m : Int) : p.neg.inB m = p.inB m := by
 rw [Bool.eq_iff_iff, Pt.inB_iff, Pt.inB_iff]
 unfold Pt.neg
 dsimp only
 omega
theorem halveF_ne (n : Nat) (p : Pt) (h : p ≠ Pt.O) : halveF n p ≠ Pt.O := by
 induction n generalizing p with
 | zero => exact h
 | succ n ih =>
  unfold halveF
  split
  ·exact h
  ·rename_i hb
   refine ih _ fun e => hb ?_
   rw [Pt.inB_iff]
   simp only [Pt.by, Pt.O, Pt.mk.injEq] at e
   have e1 : (p.x.tdiv 2).natAbs = p.x.natAbs / 2 := abs_tdiv p.x 2
   have e2 : (p.y.tdiv 2).natAbs = p.y.natAbs / 2 := abs_tdiv p.y 2
   have e3 : (p.z.tdiv 2).natAbs = p.z.natAbs / 2 := abs_tdiv p.z 2
   rw [e.1] at e1; rw [e.2.1] at e2; rw [e.2.2] at e3
   simp only [Int.natAbs_zero] at e1 e2 e3
   omega
theorem low_ne {p : Pt} (h : p ≠ Pt.O) : p.low ≠ Pt.O := fun e => by
 have := low_g h
 rw [e] at this
 revert this; decide
theorem short_ne {p : Pt} (hb : p.inB 4398046511104 = true) (h : p ≠ Pt.O) : p.short ≠ Pt.O := by
 unfold Pt.short
 rw [if_pos hb]
 exact low_ne (halveF_ne _ _ (low_ne h))
def pt (L : List Pt) (i : Nat) : Pt := L[i]?.getD default
theorem pt_mem {L : List Pt} {i : Nat} (h : i < L.length) : pt L i ∈ L := by unfold pt; rw [List.getElem?_eq_getElem h]; exact List.getElem_mem h
theorem pt_of_mem {L : List Pt} {p : Pt} (h : p ∈ L) : ∃ i, i < L.length /\ pt L i = p := by
 obtain ⟨i, hi, e⟩ := List.getElem_of_mem h
 exact ⟨i, hi, by unfold pt; rw [List.getElem?_eq_getElem hi, e]; rfl⟩
theorem drop_pt {L : List Pt} {i : Nat} (h : i < L.length) : L.drop i = pt L i :: L.drop (i + 1) := by
 rw [List.drop_eq_getElem_cons h]; unfold pt; rw [List.getElem?_eq_getElem h]; rfl
theorem take_pt {L : List Pt} {i : Nat} (h : i < L.length) : L.take (i + 1) = L.take i ++ [pt L i] := by
 rw [List.take_succ_eq_append_getElem h]; unfold pt; rw [List.getElem?_eq_getElem h]; rfl
end
section
section
variable {P : Program} {ops : Array Oper} {Q : Exit -> Act -> World -> Prop} {md : Region.Mode}
theorem wpAny_by (I : Array Bool -> Act -> World -> Prop)
  (hstep : ∀ listed a w i, listed.size = ops.size -> i ∈ Region.ready md ops listed -> I listed a w -> wpOp P ops Q i (I (listed.setIfInBounds i true)) a w)
  (hdone : ∀ listed a w, listed.size = ops.size -> Region.ready md ops listed = [] -> I listed a w -> Q .normal a w) :
  ∀ (fuel : Nat) (listed : Array Bool) (a : Act) (w : World), listed.size = ops.size -> listed.toList.count false <= fuel -> I listed a w -> wpAny P md ops Q fuel listed a w
 | 0, listed, a, w, hs, hf, h => by
  have hr : Region.ready md ops listed = [] := by
   apply List.eq_nil_iff_forall_not_mem.2
   intro i hi
   obtain ⟨h0, o, ho, _⟩ := mem_ready.1 hi
   have hlt : i < listed.size := by rw [hs]; exact (Array.getElem?_eq_some_iff.1 ho).1
   have hm : false ∈ listed.toList := by
    have : listed[i] = false := by simpa [hlt] using h0
    rw [<- this]; exact Array.getElem_mem_toList hlt
   have := List.count_pos_iff.2 hm
   omega
  exact ⟨hr, hdone _ _ _ hs hr h⟩
 | fuel + 1, listed, a, w, hs, hf, h => by
  refine ⟨fun hr => hdone _ _ _ hs hr h, fun i hi => ?_⟩
  have hlt : i < listed.size := by
   obtain ⟨h0, o, ho, _⟩ := mem_ready.1 hi
   rw [hs]; exact (Array.getElem?_eq_some_iff.1 ho).1
  have hfalse : listed[i] = false := by
   have := (mem_ready.1 hi).1
   simpa [hlt] using this
  refine wpOp_mono (fun a' w' h' => ?_) (hstep _ _ _ _ hs hi h)
  refine wpAny_by I hstep hdone fuel _ a' w' (by simpa using hs) ?_ h'
  have hc : (listed.toList.set i true).count false + 1 = listed.toList.count false := by
   have hl : i < listed.toList.length := by simpa using hlt
   rw [List.count_set hl]
   have : listed.toList[i] = false := by simpa using hfalse
   simp only [this, beq_self_eq_true, if_true]
   have hm : false ∈ listed.toList := by rw [<- this]; exact List.getElem_mem hl
   have := List.count_pos_iff.2 hm
   have e : (true == false) = false := rfl
   simp only [e, Bool.false_eq_true, if_false]
   omega
  have : (listed.setIfInBounds i true).toList = listed.toList.set i true := by simp
  rw [this]; omega
def Tidy : List Oper -> Nat -> Bool
 | [], _ => true
 | o :: rest, n => (o.after.all fun e => decide (e.on < n)) && Tidy rest (n + 1)
theorem tidy_at : ∀ (l : List Oper) (n i : Nat) (o : Oper), Tidy l n = true -> l[i]? = some o -> ∀ e ∈ o.after, e.on < n + i
 | [], _, _, _, _, h => by simp at h
 | x :: rest, n, 0, o, ht, h => by
  simp only [Tidy, Bool.and_eq_true] at ht
  simp only [List.getElem?_cons_zero, Option.some.injEq] at h
  subst h
  intro e he
  have := (Array.all_eq_true_iff_forall_mem.1 ht.1) e he
  simpa using this
 | x :: rest, n, i + 1, o, ht, h => by
  simp only [Tidy, Bool.and_eq_true] at ht
  intro e he
  have := tidy_at rest (n + 1) i o ht.2 (by simpa using h) e he
  omega
theorem all_listed {listed : Array Bool} (ht : Tidy ops.toList 0 = true) (hr : Region.ready md ops listed = []) (hs : listed.size = ops.size) : ∀ i, i < ops.size -> listed.getD i false = true := by
 intro i
 induction i using Nat.strongRecOn with
 | _ i ih =>
  intro hi
  cases hl : listed.getD i false with
  | true => rfl
  | false =>
   exfalso
   have ho : ops[i]? = some ops[i] := Array.getElem?_eq_getElem hi
   have hmem : i ∈ Region.ready md ops listed := by
    refine mem_ready.2 ⟨?_, ops[i], ho, fun e he _ => ?_⟩
    ·have : i < listed.size := by omega
     simp [this] at hl ⊢; exact hl
    ·have := tidy_at ops.toList 0 i ops[i] ht (by simp [hi]) e he
     exact ih e.on (by omega) (by omega)
   rw [hr] at hmem
   simp at hmem
def dstOf (ops : Array Oper) (j : Nat) : Option Tmp := (ops[j]?).bind (·.dst)
def waitsFor (ops : Array Oper) (j e : Nat) : Prop := ∃ o, ops[j]? = some o /\ ∃ x ∈ o.after, Region.binds .any x = true /\ x.on = e
def Once (ops : List Oper) : Bool := (ops.filterMap (·.dst)).Nodup
structure Held (D : Nat -> Option Tmp) (A : Nat -> Nat -> Prop) (val : (Nat -> Nat) -> Nat -> Value) (G : (Nat -> Nat) -> (Nat -> Bool) -> World -> Prop) (a₀ : Act) (γ : Nat -> Nat) (L : Nat -> Bool) (a : Act) (w : World) : Prop where
 defers : a.defers = a₀.defers
 size : a.tmps.size = a₀.tmps.size
 slot : ∀ (j : Nat) (t : Tmp), D j = some t -> L j = true -> a.tmps[t]? = some (val γ j)
 rest : ∀ t : Tmp, (∀ j : Nat, D j ≠ some t) -> a.tmps[t]? = a₀.tmps[t]?
 closed : ∀ j e : Nat, A j e -> L j = true -> L e = true
 glob : G γ L w
def more (L : Nat -> Bool) (i : Nat) : Nat -> Bool := fun j => decide (j = i) || L j
def wantedD (D : Nat -> Option Tmp) (o : Oper) (a : Act) : Bool :=
 match o.guard with
 | none => true
 | some (g, b) => (match (D g).bind (a.tmps[·]?) with | some (.bool x) => some x | _ => none) == some b
theorem wantedD_eq (ops : Array Oper) (o : Oper) (a : Act) : Region.wanted o (yielded ops a.tmps) = wantedD (dstOf ops) o a := by
 unfold Region.wanted wantedD yielded dstOf
 cases o.guard <;> rfl
def Does (P : Program) (Q : Exit -> Act -> World -> Prop) (D : Nat -> Option Tmp) (A : Nat -> Nat -> Prop) (val : (Nat -> Nat) -> Nat -> Value) (G : (Nat -> Nat) -> (Nat -> Bool) -> World -> Prop) (a₀ : Act) (i : Nat) (o : Oper) : Prop :=
 ∀ (γ : Nat -> Nat) (L : Nat -> Bool) (a : Act) (w : World), Held D A val G a₀ γ L a w -> L i = false -> (∀ e ∈ o.after, Region.binds .any e = true -> L e.on = true) ->
  (wantedD D o a = true -> o.wp P a w (fun a' w' => ∃ v γ', a' = a.put o.dst v /\ (∀ j, L j = true -> val γ' j = val γ j) /\ (o.dst.isSome = true -> v = val γ' i) /\ G γ' (more L i) w') Q) /\
  (wantedD D o a = false -> (o.dst.isSome = true -> undef = val γ i) /\ G γ (more L i) w)
theorem dst_once (hn : Once ops.toList = true) {i j : Nat} {t : Tmp} (h : dstOf ops i = some t) (h' : dstOf ops j = some t) : i = j := by
 have key : ∀ (l : List Oper), (l.filterMap (·.dst)).Nodup -> ∀ (i j : Nat) (o o' : Oper), l[i]? = some o -> l[j]? = some o' -> o.dst = some t -> o'.dst = some t -> i = j := by
  intro l
  induction l with
  | nil => intro _ i j o o' hi; simp at hi
  | cons x rest ih =>
   intro hnd i j o o' hi hj h h'
   have hrest : (rest.filterMap (·.dst)).Nodup := by
    rw [List.filterMap_cons] at hnd
    cases hx : x.dst with
    | none => simpa [hx] using hnd
    | some d => rw [hx] at hnd; exact (List.nodup_cons.1 hnd).2
   have hno : x.dst = some t -> t ∉ rest.filterMap (·.dst) := by
    intro hx
    rw [List.filterMap_cons, hx] at hnd
    exact (List.nodup_cons.1 hnd).1
   match i, j with
   | 0, 0 => rfl
   | 0, j + 1 =>
    simp only [List.getElem?_cons_zero, Option.some.injEq] at hi
    subst hi
    exact absurd (List.mem_filterMap.2 ⟨o', List.mem_of_getElem? (by simpa using hj), h'⟩) (hno h)
   | i + 1, 0 =>
    simp only [List.getElem?_cons_zero, Option.some.injEq] at hj
    subst hj
    exact absurd (List.mem_filterMap.2 ⟨o, List.mem_of_getElem? (by simpa using hi), h⟩) (hno h')
   | i + 1, j + 1 => have := ih hrest i j o o' (by simpa using hi) (by simpa using hj) h h'; omega
 unfold dstOf at h h'
 obtain ⟨o, ho, hd⟩ := Option.bind_eq_some_iff.1 h
 obtain ⟨o', ho', hd'⟩ := Option.bind_eq_some_iff.1 h'
 exact key ops.toList (of_decide_eq_true hn) i j o o' (by simpa using ho) (by simpa using ho') hd hd'
def AllDo (P : Program) (Q : Exit -> Act -> World -> Prop) (D : Nat -> Option Tmp) (A : Nat -> Nat -> Prop) (val : (Nat -> Nat) -> Nat -> Value) (G : (Nat -> Nat) -> (Nat -> Bool) -> World -> Prop) (a₀ : Act) : List Oper -> Nat -> Prop
 | [], _ => True
 | o :: rest, n => Does P Q D A val G a₀ n o /\ AllDo P Q D A val G a₀ rest (n + 1)
def Fits (ops : List Oper) (n : Nat) : Bool := ops.all fun o => match o.dst with | some t => decide (t < n) | none => true
end
end
section
namespace RV
open Go.RowKit
def upd (γ : Nat -> Value) (i : Nat) (v : Value) : Nat -> Value := fun j => if j = i then v else γ j
theorem upd_self (γ : Nat -> Value) (i : Nat) (v : Value) : upd γ i v i = v := by simp [upd]
theorem upd_ne (γ : Nat -> Value) {i j : Nat} (v : Value) (h : j ≠ i) : upd γ i v j = γ j := by simp [upd, h]
section
variable {P : Program} {ops : Array Oper} {Q : Exit -> Act -> World -> Prop}
structure Held (D : Nat -> Option Tmp) (A : Nat -> Nat -> Prop) (R : Nat -> Value -> World -> Prop) (G : (Nat -> Value) -> (Nat -> Bool) -> World -> Prop) (a₀ : Act) (γ : Nat -> Value) (L : Nat -> Bool) (a : Act) (w : World) : Prop where
 defers : a.defers = a₀.defers
 size : a.tmps.size = a₀.tmps.size
 slot : ∀ (j : Nat) (t : Tmp), D j = some t -> L j = true -> a.tmps[t]? = some (γ j)
 holds : ∀ j : Nat, L j = true -> R j (γ j) w
 early : ∀ t : Tmp, (∀ j : Nat, D j = some t -> L j = false) -> a.tmps[t]? = a₀.tmps[t]?
 closed : ∀ j e : Nat, A j e -> L j = true -> L e = true
 glob : G γ L w
theorem Held.rest {D : Nat -> Option Tmp} {A : Nat -> Nat -> Prop} {R : Nat -> Value -> World -> Prop} {G : (Nat -> Value) -> (Nat -> Bool) -> World -> Prop} {a₀ : Act} {γ : Nat -> Value} {L : Nat -> Bool} {a : Act} {w : World} (h : Held D A R G a₀ γ L a w) (t : Tmp) (hno : ∀ j : Nat, D j ≠ some t) : a.tmps[t]? = a₀.tmps[t]? := h.early t fun j e => absurd e (hno j)
def Does (P : Program) (Q : Exit -> Act -> World -> Prop) (D : Nat -> Option Tmp) (A : Nat -> Nat -> Prop) (R : Nat -> Value -> World -> Prop) (G : (Nat -> Value) -> (Nat -> Bool) -> World -> Prop) (a₀ : Act) (i : Nat) (o : Oper) : Prop :=
 ∀ (γ : Nat -> Value) (L : Nat -> Bool) (a : Act) (w : World), Held D A R G a₀ γ L a w -> L i = false -> (∀ e ∈ o.after, Region.binds .any e = true -> L e.on = true) ->
  (wantedD D o a = true -> o.wp P a w (fun a' w' => ∃ v, a' = a.put o.dst v /\ R i v w' /\ (∀ j v, L j = true -> R j v w -> R j v w') /\ G (upd γ i v) (more L i) w') Q) /\
  (wantedD D o a = false -> R i undef w /\ G (upd γ i undef) (more L i) w)
def AllDo (P : Program) (Q : Exit -> Act -> World -> Prop) (D : Nat -> Option Tmp) (A : Nat -> Nat -> Prop) (R : Nat -> Value -> World -> Prop) (G : (Nat -> Value) -> (Nat -> Bool) -> World -> Prop) (a₀ : Act) : List Oper -> Nat -> Prop
 | [], _ => True
 | o :: rest, n => Does P Q D A R G a₀ n o /\ AllDo P Q D A R G a₀ rest (n + 1)
theorem Held.got {D : Nat -> Option Tmp} {A : Nat -> Nat -> Prop} {R : Nat -> Value -> World -> Prop} {G : (Nat -> Value) -> (Nat -> Bool) -> World -> Prop} {a₀ : Act} {γ : Nat -> Value} {L : Nat -> Bool} {a : Act} {w : World} (h : Held D A R G a₀ γ L a w) {i : Nat} {t : Tmp} {v : Value} (d : D i = some t) (r : ∀ u w, R i u w = (u = v)) (l : L i = true) : a.tmps[t]? = some v := by
 have e := h.slot i t d l
 have g := h.holds i l
 rw [r] at g
 rw [g] at e
 exact e
theorem AllDo.name {P : Program} {Q : Exit -> Act -> World -> Prop} {D : Nat -> Option Tmp} {A : Nat -> Nat -> Prop} {R : Nat -> Value -> World -> Prop} {G : (Nat -> Value) -> (Nat -> Bool) -> World -> Prop} {a₀ : Act} {ops : List Oper} {k : Nat} (h : ∀ R', R' = R -> AllDo P Q D A R' G a₀ ops k) : AllDo P Q D A R G a₀ ops k := h R rfl
theorem AllDo.cons {D : Nat -> Option Tmp} {A : Nat -> Nat -> Prop} {R : Nat -> Value -> World -> Prop} {G : (Nat -> Value) -> (Nat -> Bool) -> World -> Prop} {a₀ : Act} {o : Oper} {rest : List Oper} (k : Nat) (h : Does P Q D A R G a₀ k o) (h' : AllDo P Q D A R G a₀ rest (k + 1)) : AllDo P Q D A R G a₀ (o :: rest) k := ⟨h, h'⟩
theorem AllDo.nil {D : Nat -> Option Tmp} {A : Nat -> Nat -> Prop} {R : Nat -> Value -> World -> Prop} {G : (Nat -> Value) -> (Nat -> Bool) -> World -> Prop} {a₀ : Act} {k : Nat} : AllDo P Q D A R G a₀ [] k := trivial
theorem allDo_at {D : Nat -> Option Tmp} {A : Nat -> Nat -> Prop} {R : Nat -> Value -> World -> Prop} {G : (Nat -> Value) -> (Nat -> Bool) -> World -> Prop} {a₀ : Act} : ∀ (l : List Oper) (n i : Nat) (o : Oper), AllDo P Q D A R G a₀ l n -> l[i]? = some o -> Does P Q D A R G a₀ (n + i) o
 | [], _, _, _, _, h => by simp at h
 | x :: rest, n, 0, o, ha, h => by
  simp only [List.getElem?_cons_zero, Option.some.injEq] at h
  subst h; exact ha.1
 | x :: rest, n, i + 1, o, ha, h => by
  have := allDo_at rest (n + 1) i o ha.2 (by simpa using h)
  rwa [show n + 1 + i = n + (i + 1) by omega] at this
theorem region_by {id : Nat} {a₀ : Act} {w : World} (R : Nat -> Value -> World -> Prop) (G : (Nat -> Value) -> (Nat -> Bool) -> World -> Prop) (hm : P.follows .mixedOrders = true)
  (ht : Tidy ops.toList 0 = true) (hn : Once ops.toList = true) (hfit : Fits ops.toList a₀.tmps.size = true)
  (h0 : G (fun _ => undef) (fun _ => false) w.drew) (hall : AllDo P Q (dstOf ops) (waitsFor ops) R G a₀ ops.toList 0)
  (hq : ∀ (γ : Nat -> Value) (a : Act) (w : World) (L : Nat -> Bool), (∀ j, j < ops.size -> L j = true) -> (∀ j, ops.size <= j -> L j = false) -> Held (dstOf ops) (waitsFor ops) R G a₀ γ L a w -> Q .normal a w) :
  (Code.region id ops true).wp P Q a₀ w := by
 refine wp_region_any hm (wpAny_by (fun listed a w => ∃ γ, Held (dstOf ops) (waitsFor ops) R G a₀ γ (fun j => listed.getD j false) a w) ?_ ?_ _ _ _ _ (by simp) (by simp) ?_)
 ·intro listed a w i hs hi hI
  obtain ⟨γ, hI⟩ := hI
  obtain ⟨hl, o, ho, hafter⟩ := mem_ready.1 hi
  have hlt : i < listed.size := by rw [hs]; exact (Array.getElem?_eq_some_iff.1 ho).1
  have hl' : listed.getD i false = false := by simp [hlt] at hl ⊢; exact hl
  have hd := allDo_at ops.toList 0 i o hall (by simpa using ho)
  rw [Nat.zero_add] at hd
  have hstep := hd γ _ a w hI hl' hafter
  have hdst : dstOf ops i = o.dst := by simp [dstOf, ho]
  suffices hmain : ∀ (a' : Act) (w' : World), (∃ v, a' = a.put o.dst v /\ R i v w' /\ (∀ j v, listed.getD j false = true -> R j v w -> R j v w') /\ G (upd γ i v) (more (fun j => listed.getD j false) i) w') ->
    ∃ γ, Held (dstOf ops) (waitsFor ops) R G a₀ γ (fun j => (listed.setIfInBounds i true).getD j false) a' w' by
   unfold wpOp
   simp only [ho]
   cases hw : Region.wanted o (yielded ops a.tmps)
   ·rw [wantedD_eq] at hw
    obtain ⟨s1, s2⟩ := hstep.2 hw
    simp only [Bool.false_eq_true, if_false]
    exact hmain _ _ ⟨undef, rfl, s1, fun _ _ _ h => h, s2⟩
   ·rw [wantedD_eq] at hw
    simp only [if_true]
    exact .inl (Oper.wp_mono hmain (hstep.1 hw))
  rintro a' w' ⟨v, rfl, hR, hkeep, hG⟩
  have hset : (fun j => (listed.setIfInBounds i true).getD j false) = more (fun j => listed.getD j false) i := by
   funext j
   unfold more
   by_cases e : j = i
   ·subst e; simp [hlt]
   ·rw [getD_set_ne false (Ne.symm e)]; simp [e]
  refine ⟨upd γ i v, ?_⟩
  rw [hset]
  refine ⟨?_, ?_, ?_, ?_, ?_, ?_, hG⟩
  ·cases hd : o.dst <;> simp [Act.put, hI.defers]
  ·cases hd : o.dst <;> simp [Act.put, hI.size]
  ·intro j t hdt hlj
   by_cases e : j = i
   ·subst e
    rw [hdst] at hdt
    have hfit' : t < a₀.tmps.size := by
     have := (List.all_eq_true.1 hfit) o (List.mem_of_getElem? (by simpa using ho))
     simpa [hdt] using this
    simp [Act.put, hdt, hI.size, hfit', upd]
   ·have hlj' : listed.getD j false = true := by simpa [more, e] using hlj
    have hu := hI.slot j t hdt hlj'
    rw [upd_ne _ _ e, <- hu]
    cases hd : o.dst with
    | none => simp [Act.put]
    | some d =>
     have hne : d ≠ t := fun e' => e (dst_once hn hdt (by rw [hdst, hd, e']))
     simp only [Act.put]
     rw [Array.getElem?_setIfInBounds_ne hne]
  ·intro j hlj
   by_cases e : j = i
   ·subst e; rw [upd_self]; exact hR
   ·have hlj' : listed.getD j false = true := by simpa [more, e] using hlj
    rw [upd_ne _ _ e]
    exact hkeep j _ hlj' (hI.holds j hlj')
  ·intro t hno
   have hno' : ∀ j, dstOf ops j = some t -> listed.getD j false = false := fun j e => by
    have := hno j e
    by_cases h : j = i
    ·subst h; exact hl'
    ·simpa [more, h] using this
   rw [<- hI.early t hno']
   cases hd : o.dst with
   | none => simp [Act.put]
   | some d =>
    have hne : d ≠ t := fun e' => by have := hno i (by rw [hdst, hd, e']); simp [more] at this
    simp only [Act.put]
    rw [Array.getElem?_setIfInBounds_ne hne]
  ·intro j e hA hj
   by_cases h : j = i
   ·subst h
    obtain ⟨o', ho', x, hx, hb, rfl⟩ := hA
    obtain rfl : o = o' := by rw [ho] at ho'; exact Option.some.inj ho'
    have := hafter x hx hb
    simp only [more, this, Bool.or_true]
   ·have := hI.closed j e hA (by simpa [more, h] using hj)
    simp only [more, this, Bool.or_true]
 ·rintro listed a w hs hr ⟨γ, hI⟩
  exact hq γ a w _ (all_listed ht hr hs) (fun j hj => by
   have : ¬ j < listed.size := by omega
   simp [this]) hI
 ·refine ⟨fun _ => undef, rfl, rfl, fun j t hd hl => ?_, fun j hl => ?_, fun _ _ => rfl, fun j e _ hj => ?_, ?_⟩
  ·exfalso
   by_cases e : j < ops.size <;> simp [e] at hl
  ·exfalso
   by_cases e : j < ops.size <;> simp [e] at hl
  ·exfalso
   by_cases e : j < ops.size <;> simp [e] at hj
  ·have : (fun j => (Array.replicate ops.size false).getD j false) = (fun _ => false) := by
    funext j
    by_cases e : j < ops.size <;> simp [e]
   rw [this]; exact h0
variable {D : Nat -> Option Tmp} {A : Nat -> Nat -> Prop} {R : Nat -> Value -> World -> Prop} {G : (Nat -> Value) -> (Nat -> Bool) -> World -> Prop} {a₀ : Act}
theorem does_pure {i : Nat} {o : Oper} (hG : ∀ γ v L w, L i = false -> G γ L w -> G (upd γ i v) (more L i) w)
  (h : ∀ γ L a w, Held D A R G a₀ γ L a w -> L i = false -> (∀ e ∈ o.after, Region.binds .any e = true -> L e.on = true) -> ∃ v, (execOp a.eval o).run P w = .ok (.value v) w /\ R i v w) (hgd : o.guard = none := by rfl) : Does P Q D A R G a₀ i o := by
 intro γ L a w hH hl haft
 refine ⟨fun _ => ?_, fun hw => by simp [wantedD, hgd] at hw⟩
 obtain ⟨v, hr, hR⟩ := h γ L a w hH hl haft
 unfold Oper.wp
 rw [hr]
 exact ⟨v, rfl, hR, fun _ _ _ h => h, hG _ _ _ _ hl hH.glob⟩
theorem does_step {i : Nat} {o : Oper}
  (h : ∀ γ L a w, Held D A R G a₀ γ L a w -> L i = false -> (∀ e ∈ o.after, Region.binds .any e = true -> L e.on = true) -> ∃ v w', (execOp a.eval o).run P w = .ok (.value v) w' /\ R i v w' /\ (∀ j v, L j = true -> R j v w -> R j v w') /\ G (upd γ i v) (more L i) w') (hgd : o.guard = none := by rfl) : Does P Q D A R G a₀ i o := by
 intro γ L a w hH hl haft
 refine ⟨fun _ => ?_, fun hw => by simp [wantedD, hgd] at hw⟩
 obtain ⟨v, w', hr, hR, hk, hg⟩ := h γ L a w hH hl haft
 unfold Oper.wp
 rw [hr]
 exact ⟨v, rfl, hR, hk, hg⟩
theorem does_store {i : Nat} {o : Oper}
  (h : ∀ γ L a w, Held D A R G a₀ γ L a w -> L i = false -> (∀ e ∈ o.after, Region.binds .any e = true -> L e.on = true) -> ∃ w', (execOp a.eval o).run P w = .ok .skip w' /\ R i undef w' /\ (∀ j v, L j = true -> R j v w -> R j v w') /\ G (upd γ i undef) (more L i) w') (hgd : o.guard = none := by rfl) : Does P Q D A R G a₀ i o := by
 intro γ L a w hH hl haft
 refine ⟨fun _ => ?_, fun hw => by simp [wantedD, hgd] at hw⟩
 obtain ⟨w', hr, hR, hk, hg⟩ := h γ L a w hH hl haft
 unfold Oper.wp
 rw [hr]
 exact ⟨undef, rfl, hR, hk, hg⟩
theorem does_call {i : Nat} {o : Oper}
  (h : ∀ γ L a w, Held D A R G a₀ γ L a w -> L i = false -> (∀ e ∈ o.after, Region.binds .any e = true -> L e.on = true) -> ∃ f args, (execOp a.eval o).run P w = .ok (.enter f args) w /\ Calls P f args w fun e w' => ∃ v, e = .returned v /\ R i v w' /\ (∀ j v, L j = true -> R j v w -> R j v w') /\ G (upd γ i v) (more L i) w') (hgd : o.guard = none := by rfl) : Does P Q D A R G a₀ i o := by
 intro γ L a w hH hl haft
 refine ⟨fun _ => ?_, fun hw => by simp [wantedD, hgd] at hw⟩
 obtain ⟨f, args, hr, hc⟩ := h γ L a w hH hl haft
 unfold Oper.wp
 rw [hr]
 refine Calls.mono hc ?_
 rintro e w' ⟨v, rfl, hR, hk, hg⟩
 exact ⟨v, rfl, hR, hk, hg⟩
theorem not_yet {a : Act} {γ : Nat -> Value} {L : Nat -> Bool} {w : World} (hH : Held D A R G a₀ γ L a w) {i j : Nat} (hA : A j i) (hl : L i = false) : L j = false := by
 cases h : L j with
 | false => rfl
 | true => rw [hH.closed j i hA h] at hl; cases hl
end
theorem more_ne {L : Nat -> Bool} {i j : Nat} (h : j ≠ i) : more L i j = L j := by simp [more, h]
theorem more_self {L : Nat -> Bool} {i : Nat} : more L i i = true := by simp [more]
theorem dst_free {ops : Array Oper} {t : Tmp} (h : (ops.toList.all fun o => decide (o.dst ≠ some t)) = true) : ∀ j, dstOf ops j ≠ some t := by
 intro j e
 obtain ⟨o, ho, hd⟩ := Option.bind_eq_some_iff.1 e
 have := (List.all_eq_true.1 h) o (List.mem_of_getElem? (by simpa using ho))
 simp [hd] at this
def putAll (v : Nat -> Value) : List Oper -> Nat -> Act -> Act
 | [], _, a => a
 | o :: r, n, a => putAll v r (n + 1) (a.put o.dst (v n))
theorem putAll_defers (v : Nat -> Value) : ∀ (l : List Oper) (n : Nat) (a : Act), (putAll v l n a).defers = a.defers
 | [], _, _ => rfl
 | o :: r, n, a => by
  rw [putAll, putAll_defers v r]
  cases o.dst <;> simp [Act.put]
theorem putAll_other (v : Nat -> Value) {t : Tmp} : ∀ (l : List Oper) (n : Nat) (a : Act), (∀ o ∈ l, o.dst ≠ some t) -> (putAll v l n a).tmps[t]? = a.tmps[t]?
 | [], _, _, _ => rfl
 | o :: r, n, a, h => by
  rw [putAll, putAll_other v r _ _ (fun x hx => h x (List.mem_cons_of_mem _ hx))]
  have h0 := h o (by simp)
  cases hd : o.dst with
  | none => simp [Act.put]
  | some d =>
   have hne : d ≠ t := fun e => h0 (by rw [hd, e])
   simp only [Act.put]
   rw [Array.getElem?_setIfInBounds_ne hne]
theorem putAll_at (v : Nat -> Value) {t : Tmp} : ∀ (l : List Oper) (n j : Nat) (o : Oper) (a : Act), (l.filterMap (·.dst)).Nodup -> l[j]? = some o -> o.dst = some t -> t < a.tmps.size -> (putAll v l n a).tmps[t]? = some (v (n + j))
 | [], _, _, _, _, _, h, _, _ => by simp at h
 | x :: r, n, 0, o, a, hn, h, hd, ht => by
  simp only [List.getElem?_cons_zero, Option.some.injEq] at h
  subst h
  rw [List.filterMap_cons, hd] at hn
  have hno := (List.nodup_cons.1 hn).1
  rw [putAll, putAll_other v r _ _ (fun o ho e => hno (List.mem_filterMap.2 ⟨o, ho, e⟩))]
  simp [Act.put, hd, ht]
 | x :: r, n, j + 1, o, a, hn, h, hd, ht => by
  have hr : (r.filterMap (·.dst)).Nodup := by
   rw [List.filterMap_cons] at hn
   cases hx : x.dst with
   | none => simpa [hx] using hn
   | some d => rw [hx] at hn; exact (List.nodup_cons.1 hn).2
  rw [putAll, putAll_at v r (n + 1) j o _ hr (by simpa using h) hd (by cases hx : x.dst <;> simpa [Act.put] using ht)]
  congr 2; omega
theorem held_act {ops : Array Oper} {A : Nat -> Nat -> Prop} {R : Nat -> Value -> World -> Prop} {G : (Nat -> Value) -> (Nat -> Bool) -> World -> Prop} {a₀ a : Act} {γ : Nat -> Value} {L : Nat -> Bool} {w : World}
  (h : Held (dstOf ops) A R G a₀ γ L a w) (hL : ∀ j, j < ops.size -> L j = true) (hn : Once ops.toList = true) (hf : Fits ops.toList a₀.tmps.size = true) : a = putAll γ ops.toList 0 a₀ := by
 have hd : a.defers = (putAll γ ops.toList 0 a₀).defers := by rw [putAll_defers]; exact h.defers
 have ht : a.tmps = (putAll γ ops.toList 0 a₀).tmps := by
  apply Array.ext_getElem?
  intro t
  by_cases hx : ∃ (j : Nat) (o : Oper), ops.toList[j]? = some o /\ o.dst = some t
  ·obtain ⟨j, o, ho, hd⟩ := hx
   have hfit : t < a₀.tmps.size := by
    have := (List.all_eq_true.1 hf) o (List.mem_of_getElem? ho)
    simpa [hd] using this
   have ho' : ops[j]? = some o := by simpa using ho
   rw [putAll_at γ ops.toList 0 j o a₀ (of_decide_eq_true hn) ho hd hfit, Nat.zero_add]
   exact h.slot j t (by simp [dstOf, ho', hd]) (hL j (Array.getElem?_eq_some_iff.1 ho').1)
  ·rw [putAll_other γ ops.toList 0 a₀ (fun o ho e => by
    obtain ⟨j, hj⟩ := List.getElem?_of_mem ho
    exact hx ⟨j, o, hj, e⟩)]
   refine h.rest t (fun j e => ?_)
   obtain ⟨o, ho, hd⟩ := Option.bind_eq_some_iff.1 e
   exact hx ⟨j, o, by simpa using ho, hd⟩
 cases a
 cases hp : putAll γ ops.toList 0 a₀
 rw [hp] at hd ht
 simp only at hd ht
 rw [hd, ht]
def Pend (W0 : World) (T i j : Nat) (fin : Array Value) (γ : Nat -> Value) (L : Nat -> Bool) (w : World) : Prop :=
 L i = true -> ∃ (b : Nat) (cs : Array Value), γ i = .pointer (some ⟨b, 0, none⟩) /\ W0.heap.size <= b /\ w.heap[b]? = some (.cells cs T (0, 0)) /\ cs.size = fin.size /\ (L j = true -> cs = fin)
section
variable {W0 : World} {T i j : Nat} {fin : Array Value} {γ : Nat -> Value} {L : Nat -> Bool} {w w' : World}
theorem Pend.start (h : L i = false) : Pend W0 T i j fin γ L w := fun e => by rw [h] at e; cases e
theorem Pend.other (h : Pend W0 T i j fin γ L w) {k : Nat} (v : Value) (hi : i ≠ k) (hj : j ≠ k) : Pend W0 T i j fin (upd γ k v) (more L k) w := by
 intro hl
 rw [more_ne hi] at hl
 obtain ⟨b, cs, h1, h2, h3, h4, h5⟩ := h hl
 exact ⟨b, cs, by rw [upd_ne _ _ hi]; exact h1, h2, h3, h4, fun e => h5 (by rw [more_ne hj] at e; exact e)⟩
theorem Pend.below (h : Pend W0 T i j fin γ L w) (hb : Below w.heap.size w w') : Pend W0 T i j fin γ L w' := by
 intro hl
 obtain ⟨b, cs, h1, h2, h3, h4, h5⟩ := h hl
 exact ⟨b, cs, h1, h2, (hb.block b (Array.getElem?_eq_some_iff.1 h3).1).trans h3, h4, h5⟩
theorem Pend.made (cs : Array Value) (hs : cs.size = fin.size) (hw : W0.heap.size <= w.heap.size) (hj : L j = false) (hij : j ≠ i) : Pend W0 T i j fin (upd γ i (.pointer (some ⟨w.heap.size, 0, none⟩))) (more L i) (w.alloc (.cells cs T (0, 0))) := by
 intro _
 exact ⟨w.heap.size, cs, by rw [upd_self], hw, heap_alloc_new _ _, hs, fun e => by rw [more_ne hij, hj] at e; cases e⟩
theorem Pend.filled {b : Nat} (hi : γ i = .pointer (some ⟨b, 0, none⟩)) (hb : W0.heap.size <= b) (hx : w'.heap[b]? = some (.cells fin T (0, 0))) (hij : i ≠ j) (v : Value) : Pend W0 T i j fin (upd γ j v) (more L j) w' := by
 intro _
 exact ⟨b, fin, by rw [upd_ne _ _ hij]; exact hi, hb, hx, rfl, fun _ => rfl⟩
end
abbrev cc := @AllDo.cons
abbrev dp := @does_pure
abbrev dc := @does_call
abbrev ny := @not_yet
abbrev mn := @more_ne
end RV
end
section
open Go.RowKit Go.Shelf
def Pt.v (p : Pt) : Value := .agg #[.int .i64 p.x, .int .i64 p.y, .int .i64 p.z]
def fl3 : List Pt -> List Value
 | [] => []
 | p :: r => .int .i64 p.x :: .int .i64 p.y :: .int .i64 p.z :: fl3 r
theorem fl3_length : ∀ L : List Pt, (fl3 L).length = L.length * 3
 | [] => rfl
 | p :: r => by simp only [fl3, List.length_cons, fl3_length r]; omega
theorem fl3_append : ∀ A B : List Pt, fl3 (A ++ B) = fl3 A ++ fl3 B
 | [], B => rfl
 | p :: r, B => by simp [fl3, fl3_append r B]
theorem fl3_at : ∀ (L : List Pt) (i : Nat), i < L.length -> (fl3 L)[i * 3]? = some (.int .i64 (L[i]?.getD default).x) /\ (fl3 L)[i * 3 + 1]? = some (.int .i64 (L[i]?.getD default).y) /\ (fl3 L)[i * 3 + 2]? = some (.int .i64 (L[i]?.getD default).z)
 | [], i, h => by simp at h
 | p :: r, 0, _ => ⟨rfl, rfl, rfl⟩
 | p :: r, i + 1, h => by
  have := fl3_at r i (by simpa using h)
  rw [show (i + 1) * 3 = i * 3 + 3 by omega]
  simpa [fl3] using this
theorem fl3_one (L : List Pt) : ∀ u ∈ fl3 L, u.oneCell' = true := by
 induction L with
 | nil => intro u hu; cases hu
 | cons p r ih =>
  intro u hu
  simp only [fl3, List.mem_cons] at hu
  rcases hu with rfl | rfl | rfl | hu
  ·rfl
  ·rfl
  ·rfl
  ·exact ih u hu
theorem point_info : (Tryz.prog.info? 23).map (fun i => (i.zero, i.size, i.bytes)) = some (some (.agg #[.int .i64 0, .int .i64 0, .int .i64 0]), 3, 24) := by kernel_rfl
theorem b_step {w w1 w2 : World} (h1 : Below w.heap.size w w1) (h2 : Below w1.heap.size w1 w2) : Below w.heap.size w w2 := h1.trans (h2.mono h1.size)
theorem c_after {w w1 : World} {p : Addr} {v : Value} (hb : Below w.heap.size w w1) (hc : w.cell? p = some v) : w1.cell? p = some v := (hb.cell (World.block_lt_of_cell? _ _ hc)).trans hc
theorem n_after (w : World) (o : Obj) : Below w.heap.size w (w.alloc o) := (Below.refl _ _).alloc (Nat.le_refl _) _
theorem f_after {w w1 : World} {p : Addr} {v : Value} (hb : Below w.heap.size w w1) (hc : w.cell? p = some v) (hf : w.frozen? p = false) : w1.frozen? p = false := (hb.frozen (World.block_lt_of_cell? _ _ hc)).trans hf
theorem early9 {p : Bool} {X Y : Prop} (h : (p = false /\ X) \/ (p = true /\ Y)) (hp : p = false) : X := by
 rcases h with h | h
 ·exact h.2
 ·rw [hp] at h; cases h.1
theorem late9 {p : Bool} {X Y : Prop} (h : (p = false /\ X) \/ (p = true /\ Y)) (hp : p = true) : Y := by
 rcases h with h | h
 ·rw [hp] at h; cases h.1
 ·exact h.2
theorem w64 {n : Int} (h1 : -9223372036854775808 <= n) (h2 : n <= 9223372036854775807) : wrap64 n = n := by unfold wrap64; omega
structure Box3 (W : World) (b : Nat) (q : Pt) : Prop where
 c0 : W.cell? ⟨b, 0, none⟩ = some (.int .i64 q.x)
 c1 : W.cell? ⟨b, 1, none⟩ = some (.int .i64 q.y)
 c2 : W.cell? ⟨b, 2, none⟩ = some (.int .i64 q.z)
 f0 : W.frozen? ⟨b, 0, none⟩ = false
 f1 : W.frozen? ⟨b, 1, none⟩ = false
 f2 : W.frozen? ⟨b, 2, none⟩ = false
theorem Box3.step {A B : World} {b : Nat} {q : Pt} (h : Box3 A b q) (hb : Below A.heap.size A B) : Box3 B b q :=
 ⟨c_after hb h.c0, c_after hb h.c1, c_after hb h.c2, f_after hb h.c0 h.f0, f_after hb h.c1 h.f1, f_after hb h.c2 h.f2⟩
theorem Box3.lt {W : World} {b : Nat} {q : Pt} (h : Box3 W b q) : b < W.heap.size := World.block_lt_of_cell? _ _ h.c0
theorem Box3.new (w : World) (x y z : Int) (t : TypeId) : Box3 (w.alloc (.cells #[.int .i64 x, .int .i64 y, .int .i64 z] t)) w.heap.size ⟨x, y, z⟩ :=
 ⟨by simp, by simp, by simp, by simp [go_sem], by simp [go_sem], by simp [go_sem]⟩
def set3 (W : World) (b : Nat) (x y z : Int) : World := ((W.setCell ⟨b, 0, none⟩ (.int .i64 x)).setCell ⟨b, 1, none⟩ (.int .i64 y)).setCell ⟨b, 2, none⟩ (.int .i64 z)
theorem Box3.set {W : World} {b : Nat} {q : Pt} (h : Box3 W b q) (x y z : Int) : Box3 (set3 W b x y z) b ⟨x, y, z⟩ := by
 obtain ⟨c0, c1, c2, f0, f1, f2⟩ := h
 unfold set3
 exact ⟨by simp [go_sem, c0], by simp [go_sem, c1], by simp [go_sem, c2], by simp [go_sem, f0], by simp [go_sem, f1], by simp [go_sem, f2]⟩
theorem Box3.other {W : World} {b b' : Nat} {q : Pt} (h : Box3 W b q) (hne : b' ≠ b) (x y z : Int) : Box3 (set3 W b' x y z) b q := by
 obtain ⟨c0, c1, c2, f0, f1, f2⟩ := h
 unfold set3
 have hne' : ¬ b = b' := fun e => hne e.symm
 exact ⟨by simp [go_sem, c0], by simp [go_sem, c1], by simp [go_sem, c2], by simp [go_sem, f0], by simp [go_sem, f1], by simp [go_sem, f2]⟩
theorem set3_below {n : Nat} {w W : World} {b : Nat} (h : Below n w W) (hb : n <= b) (x y z : Int) : Below n w (set3 W b x y z) := ((h.setCell hb _).setCell hb _).setCell hb _
theorem set3_size (W : World) (b : Nat) (x y z : Int) : (set3 W b x y z).heap.size = W.heap.size := by simp [set3, World.setCell]
structure Lies (W : World) (v : Value) (L : List Pt) : Prop where
 form : ∃ o cap, v = .slice o L.length cap /\ L.length <= cap /\ cap <= 9223372036854775807 /\ ∀ i, i < L.length -> ∃ g off, o = some ⟨g, off, none⟩ /\ W.cell? ⟨g, off + i * 3, none⟩ = some (.int .i64 (pt L i).x) /\ W.cell? ⟨g, off + i * 3 + 1, none⟩ = some (.int .i64 (pt L i).y) /\ W.cell? ⟨g, off + i * 3 + 2, none⟩ = some (.int .i64 (pt L i).z)
theorem Lies.of_row {W : World} {base : Nat} {v : Value} {L : List Pt} (h : W.ownsRow base 23 3 v L.length (fl3 L)) : Lies W v L := by
 refine ⟨?_⟩
 rcases h.2 with ⟨rfl, h0⟩ | ⟨g, cap, cur, rfl, hb, hg, h1, h2, h3, h4⟩
 ·exact ⟨none, 0, by rw [h0], by omega, by omega, fun i hi => by omega⟩
 ·refine ⟨_, cap, rfl, h1, by unfold maxLen at h2; omega, fun i hi => ⟨g, 0, rfl, ?_, ?_, ?_⟩⟩
  ·rw [Nat.zero_add]; exact (h.cellAt (i * 3) (by omega)).trans (fl3_at L i hi).1
  ·rw [Nat.zero_add]; exact (h.cellAt (i * 3 + 1) (by omega)).trans (fl3_at L i hi).2.1
  ·rw [Nat.zero_add]; exact (h.cellAt (i * 3 + 2) (by omega)).trans (fl3_at L i hi).2.2
theorem Lies.below {w W : World} {v : Value} {L : List Pt} (h : Lies w v L) (hb : Below w.heap.size w W) : Lies W v L := by
 obtain ⟨o, cap, e, h1, h2, h3⟩ := h.form
 refine ⟨o, cap, e, h1, h2, fun i hi => ?_⟩
 obtain ⟨g, off, e, a, b, c⟩ := h3 i hi
 exact ⟨g, off, e, c_after hb a, c_after hb b, c_after hb c⟩
theorem Lies.cells {w : World} {v : Value} {L : List Pt} (h : Lies w v L) : ∃ o cap, v = .slice o L.length cap /\ L.length <= cap /\ cap <= 9223372036854775807 /\ (L = [] \/ ∃ g off, o = some ⟨g, off, none⟩ /\ ∀ j u, (fl3 L)[j]? = some u -> w.cell? ⟨g, off + j, none⟩ = some u) := by
 obtain ⟨o, cap, e, h1, h2, h3⟩ := h.form
 refine ⟨o, cap, e, h1, h2, ?_⟩
 by_cases h0 : L.length = 0
 ·exact Or.inl (List.length_eq_zero_iff.1 h0)
 ·right
  obtain ⟨g, off, rfl, _⟩ := h3 0 (by omega)
  refine ⟨g, off, rfl, fun j u hj => ?_⟩
  have hl : j < L.length * 3 := by rw [<- fl3_length]; exact (List.getElem?_eq_some_iff.1 hj).1
  obtain ⟨a0, a1, a2⟩ := fl3_at L (j / 3) (by omega)
  obtain ⟨g', off', e', b0, b1, b2⟩ := h3 (j / 3) (by omega)
  simp only [Option.some.injEq, Addr.mk.injEq, and_true] at e'
  obtain ⟨rfl, rfl⟩ := e'
  have : j % 3 = 0 \/ j % 3 = 1 \/ j % 3 = 2 := by omega
  rcases this with e | e | e
  ·have ej : j / 3 * 3 = j := by omega
   rw [ej] at a0 b0
   rw [a0] at hj
   rw [<- hj]; exact b0
  ·have ej : j / 3 * 3 + 1 = j := by omega
   rw [ej] at a1
   rw [show off + j / 3 * 3 + 1 = off + j by omega] at b1
   rw [a1] at hj
   rw [<- hj]; exact b1
  ·have ej : j / 3 * 3 + 2 = j := by omega
   rw [ej] at a2
   rw [show off + j / 3 * 3 + 2 = off + j by omega] at b2
   rw [a2] at hj
   rw [<- hj]; exact b2
structure Row (w V : World) (u : Value) (M : List Pt) : Prop where
 row : V.ownsRow w.heap.size 23 3 u M.length (fl3 M)
 below : Below w.heap.size w V
theorem Row.lies {w V : World} {u : Value} {M : List Pt} (h : Row w V u M) : Lies V u M := Lies.of_row h.row
theorem news_at {w : World} {vb : Nat} {x y z : Value} {t : TypeId} (h : w.heap[vb]? = some (.cells #[x, y, z] t (0, 0))) : ∀ j u, [x, y, z][j]? = some u -> w.cell? ((⟨vb, 0, none⟩ : Addr).add j) = some u := by
 intro j u hj
 have ad : (⟨vb, 0, none⟩ : Addr).add j = ⟨vb, j, none⟩ := by unfold Addr.add; split <;> simp_all
 rw [ad]
 match j, hj with
 | 0, hj => simp at hj; subst hj; simp [World.cell?, h]
 | 1, hj => simp at hj; subst hj; simp [World.cell?, h]
 | 2, hj => simp at hj; subst hj; simp [World.cell?, h]
theorem below_grown {w W : World} (h : Below w.heap.size w W) (row : Option Nat) : w.grownBy W row := ⟨h.os, h.tape, h.output, h.size, fun k hk _ => h.block k hk⟩
theorem G.trans {a b c : World} {row : Option Nat} (h : a.grownBy b row) (k : b.grownBy c row) : a.grownBy c row := ⟨k.os.trans h.os, k.tape.trans h.tape, k.output.trans h.output, Nat.le_trans h.size k.size, fun i hi hn => (k.block i (Nat.lt_of_lt_of_le hi h.size) hn).trans (h.block i hi hn)⟩
theorem own_below {A W : World} {base : Nat} {t : TypeId} {sz n : Nat} {u : Value} {xs : List Value} (h : A.ownsRow base t sz u n xs) (hb : Below A.heap.size A W) : W.ownsRow base t sz u n xs := by
 cases e : u.ownBlock with
 | none => exact h.kept (below_grown hb none) (Or.inl e)
 | some k => exact h.kept (below_grown hb none) (Or.inr (by rw [e]; simp))
structure Grew (w W : World) (u u' : Value) : Prop where
 grown : w.grownBy W u.ownBlock
 same : u'.ownBlock = u.ownBlock \/ ∃ k, u'.ownBlock = some k /\ w.heap.size <= k
theorem Grew.below {w W : World} (hb : Below w.heap.size w W) (u : Value) : Grew w W u u := ⟨below_grown hb _, Or.inl rfl⟩
theorem Grew.trans {w W X : World} {u v x : Value} (h : Grew w W u v) (k : Grew W X v x) : Grew w X u x := by
 obtain ⟨h1, h2⟩ := h
 obtain ⟨k1, k2⟩ := k
 refine ⟨⟨k1.os.trans h1.os, k1.tape.trans h1.tape, k1.output.trans h1.output, Nat.le_trans h1.size k1.size, fun i hi hn => ?_⟩, ?_⟩
 ·refine (k1.block i (Nat.lt_of_lt_of_le hi h1.size) ?_).trans (h1.block i hi hn)
  rcases h2 with e | ⟨j, e, hj⟩
  ·rw [e]; exact hn
  ·rw [e]; intro e'; cases e'; omega
 ·rcases k2 with e | ⟨j, e, hj⟩
  ·rw [e]
   rcases h2 with e | ⟨j, e, hj⟩
   ·exact Or.inl e
   ·exact Or.inr ⟨j, e, hj⟩
  ·exact Or.inr ⟨j, e, Nat.le_trans h1.size hj⟩
theorem Grew.on {w0 w W : World} {u u' : Value} {base : Nat} {t : TypeId} {sz n : Nat} {xs : List Value} (h : Grew w W u u') (hb : Below base w0 w) (ho : w.ownsRow base t sz u n xs) (hB : base <= w.heap.size) : Below base w0 W := hb.grown h.grown hB (fun k e => (ho.lt k e).1)
theorem Grew.beside {w W : World} {u u' x : Value} {base : Nat} {t : TypeId} {sz n : Nat} {xs : List Value} (h : Grew w W u u') (ho : w.ownsRow base t sz x n xs) (hne : ∀ k, x.ownBlock = some k -> u.ownBlock ≠ some k) :
  W.ownsRow base t sz x n xs /\ ∀ k, x.ownBlock = some k -> u'.ownBlock ≠ some k := by
 refine ⟨?_, fun k e e' => ?_⟩
 ·cases e : x.ownBlock with
  | none => exact ho.kept h.grown (Or.inl e)
  | some k => exact ho.kept h.grown (Or.inr (by rw [e]; exact fun e' => hne k e e'.symm))
 ·rcases h.same with s | ⟨j, s, hj⟩
  ·rw [s] at e'; exact hne k e e'
  ·rw [s] at e'; cases e'; have := (ho.lt k e).2; omega
end
section
open Go.RowKit Go.Shelf
structure KeepC (S : Nat -> Prop) (V V' : World) : Prop where
 size : V.heap.size <= V'.heap.size
 cell : ∀ (q : Addr) (v : Value), S q.block -> V.cell? q = some v -> V'.cell? q = some v
theorem KeepC.refl (S : Nat -> Prop) (V : World) : KeepC S V V := ⟨Nat.le_refl _, fun _ _ _ h => h⟩
theorem KeepC.trans {S : Nat -> Prop} {A B C : World} (h : KeepC S A B) (k : KeepC S B C) : KeepC S A C := ⟨Nat.le_trans h.size k.size, fun q v hq hv => k.cell q v hq (h.cell q v hq hv)⟩
theorem KeepC.mono {S T : Nat -> Prop} {A B : World} (h : KeepC S A B) (hT : ∀ b, T b -> S b) : KeepC T A B := ⟨h.size, fun q v hq hv => h.cell q v (hT _ hq) hv⟩
theorem KeepC.below {S : Nat -> Prop} {A B : World} (h : Below A.heap.size A B) : KeepC S A B := ⟨h.size, fun _ _ _ hv => c_after h hv⟩
theorem KeepC.grown {S : Nat -> Prop} {A B : World} (h : A.grownBy B none) : KeepC S A B := ⟨h.size, fun q v _ hv => h.cell hv (fun e => by cases e)⟩
theorem KeepC.put {S : Nat -> Prop} {W : World} {l : Nat} {o : Obj} (o' : Obj) (hl : W.heap[l]? = some o) (hc : o.isCells = false) : KeepC S W (W.putObj l o') :=
 ⟨by simp, fun q v _ hv => by
  have hne : q.block ≠ l := fun e => by
   unfold World.cell? at hv
   rw [e, hl] at hv
   cases o <;> simp_all [Obj.isCells]
  exact (World.cell?_of_block (w := W) (World.putObj_heap_other hne)).trans hv⟩
theorem Lies.keepC {S : Nat -> Prop} {A B : World} {v : Value} {L : List Pt} (h : Lies A v L) (k : KeepC S A B) (hS : ∀ q n c, v = .slice (some q) n c -> L ≠ [] -> S q.block) : Lies B v L := by
 obtain ⟨o, cap, rfl, h1, h2, h3⟩ := h.form
 refine ⟨⟨o, cap, rfl, h1, h2, fun i hi => ?_⟩⟩
 obtain ⟨g, off, rfl, x0, x1, x2⟩ := h3 i hi
 have hs : S g := hS _ _ _ rfl (fun e => by rw [e] at hi; simp at hi)
 exact ⟨g, off, rfl, k.cell _ _ hs x0, k.cell _ _ hs x1, k.cell _ _ hs x2⟩
theorem own_step {n : Nat} {J : Nat -> World -> Prop} (hJ : OwnFrom n J) {k : Nat} {A B : World} (h : J k A) (hb : Below A.heap.size A B) : J k B :=
 hJ k A B none h (below_grown hb none) (fun r e => by cases e)
def TellsT (n : Nat) (P : Program) (g : Nat) (lb : Array Value) (T : List Pt) (S : Nat -> Prop) (w : World) : Prop :=
 ∀ (l : Nat) (J : Nat -> World -> Prop) (W : World), Below w.heap.size w W -> OwnFrom W.heap.size J ->
  (∀ k V, k < T.length -> J k V -> YieldAt Fence.wide (n - 1) P l #[(pt T k).v] V fun e V' => e = .returned (.bool true) /\ J (k + 1) V' /\ KeepC S V V' /\ KeepsFrom (w.heap.size + 2) V V') ->
  J 0 W -> CallsIn Fence.wide n P g (#[.func (.yield l) #[] #[]] ++ lb) W fun e W' => (∃ v, e = .returned v) /\ J T.length W'
def postT (B : Nat) (S : Nat -> Prop) (I : Nat -> World -> Prop) (k : Nat) (W : World) : Exit -> Act -> World -> Prop
 | .normal, _, W' => KeepsFrom B W W' /\ KeepC S W W' /\ I k W'
 | _, _, _ => False
theorem range_t {n : Nat} {P : Program} (h1 : 1 <= n) {g : Operand} {ps : Array Tmp} {assign body : Code} {Q : Exit -> Act -> World -> Prop} {a : Act} {w : World} {gf : Nat} {lb : Array Value}
  (hg : a.eval g = .func (.func gf) #[] lb) (eg : ∀ args w, (callFunc gf args).run P w = .ok (.enter gf args) w)
  {T : List Pt} {S : Nat -> Prop} (hseq : TellsT (n - 1) P gf lb T S w) (hps : ps.size = 1)
  (I : Nat -> World -> Prop) (hI : OwnFrom w.heap.size I) (h0 : I 0 w) (a₁ : Nat -> Nat -> Act) (tp : TypeId)
  (hassign : ∀ (l k : Nat) (W : World) (nb : Nat) (K : Act -> World -> Prop), k < T.length -> nb = W.heap.size -> K (a₁ k nb) (W.alloc (.cells #[.int .i64 (pt T k).x, .int .i64 (pt T k).y, .int .i64 (pt T k).z] tp)) ->
   assign.wpIn (Fence.wide.inRound l) (n - 1 - 1) P (Exit.then K (fun _ _ _ => False)) { tmps := (ps.zip #[(pt T k).v]).foldl (fun t (p, v) => t.setIfInBounds p v) a.tmps, defers := [] } W)
  (hbody : ∀ (l k : Nat) (W : World) (nb : Nat), k < T.length -> (∀ Z : World, W.grownBy Z (some nb) -> I k Z) -> w.heap.size <= nb -> W.heap[nb]? = some (.cells #[.int .i64 (pt T k).x, .int .i64 (pt T k).y, .int .i64 (pt T k).z] tp) -> body.wpIn (Fence.wide.inRound l) (n - 1 - 1) P (postT w.heap.size (fun b => S b /\ b ≠ nb) I (k + 1) W) (a₁ k nb) W)
  (hdone : ∀ (D : Nat) (W : World), w.heap.size <= D -> I T.length W -> W.heap[D]? = some (.deferred (some [])) -> Q .normal { a with defers := { target := .collected D, args := #[] } :: a.defers } W) :
  (Code.rangeFunc g ps assign body).wpIn Fence.wide n P Q a w := by
 refine wpIn_rangeFunc fun fn hfn => ?_
 show ∃ _, _
 generalize hD : w.heap.size = D at *
 let R (st : LoopState) (pe : Option Code) : Loop := ⟨st, pe, fn, a.tmps, ps, assign, body, D⟩
 let V : World := (w.alloc (.deferred (some []))).alloc (.loop (R .ready none))
 have sV : V.heap.size = D + 2 := by simp [V, hD]
 have rV : V.heap[D + 1]? = some (.loop (R .ready none)) := by
  have := World.alloc_heap_new (w.alloc (.deferred (some []))) (.loop (R .ready none))
  rwa [World.size_alloc, hD] at this
 have dV : V.heap[D]? = some (.deferred (some [])) := by
  have := World.alloc_heap_new w (.deferred (some []))
  rw [hD] at this
  exact (Below.heap_alloc _ _ _ (by simp; omega)).trans this
 have iV : I 0 V := hI.alloc _ (hI.alloc _ h0)
 have bV : Below w.heap.size w V := ((Below.refl _ w).alloc (Nat.le_refl _) _).alloc (by simp) _
 have keep : ∀ {X Y : World} {row : Option Nat} {k : Nat} {o : Obj}, X.grownBy Y row -> (∀ r, row = some r -> V.heap.size <= r /\ ∃ o : Obj, X.heap[r]? = some o /\ o.isCells = false) -> k < D + 2 -> X.heap[k]? = some o -> Y.heap[k]? = some o := by
  intro X Y row k o hXY hr hk hX
  refine (hXY.block k (Array.getElem?_eq_some_iff.1 hX).1 fun e => ?_).trans hX
  have := (hr k e.symm).1
  omega
 have wide : ∀ {X : World} {row : Option Nat}, (∀ r, row = some r -> V.heap.size <= r /\ ∃ o : Obj, X.heap[r]? = some o /\ o.isCells = false) -> ∀ r, row = some r -> D <= r /\ ∃ o : Obj, X.heap[r]? = some o /\ o.isCells = false :=
  fun hr r e => ⟨by have := (hr r e).1; omega, (hr r e).2⟩
 refine ⟨D + 1, [{ target := .collected D, args := #[] }], V, { target := .fn (.func gf) lb, args := #[.func (.yield (D + 1)) #[] #[]] }, V, gf, #[.func (.yield (D + 1)) #[] #[]] ++ lb, V, ?_, ?_, fun _ _ => trivial, ?_, fun _ => h1, ?_⟩
 ·have := run_enterLoop_outer (P := P) (w := w) fn a.tmps ps assign body
  rw [hD] at this
  exact this
 ·simp only [resolve, hg]
  simp [go_sem]
 ·simp [invoke, go_sem, eg]
 refine (hseq (D + 1) (fun k W => I k W /\ W.heap[D + 1]? = some (.loop (R .ready none)) /\ W.heap[D]? = some (.deferred (some []))) V (hD ▸ bV)
  (fun s A B row hs hAB hr => ⟨hI s A B row hs.1 hAB (wide hr), keep hAB hr (by omega) hs.2.1, keep hAB hr (by omega) hs.2.2⟩) ?_ ⟨iV, rV, dV⟩).mono ?_
 ·skip
  rintro k X hk ⟨iX, rX, dX⟩
  have ltX : D + 1 < X.heap.size := (Array.getElem?_eq_some_iff.1 rX).1
  obtain ⟨X1, hX1⟩ : ∃ X1, X1 = X.alloc (.cells #[.int .i64 (pt T k).x, .int .i64 (pt T k).y, .int .i64 (pt T k).z] tp) := ⟨_, rfl⟩
  have gX : X.grownBy X1 none := by rw [hX1]; exact World.grownBy_alloc X _ none
  have up : ∀ {j : Nat} {o : Obj}, X.heap[j]? = some o -> X1.heap[j]? = some o := fun hX => (gX.block _ (Array.getElem?_eq_some_iff.1 hX).1 (fun e => by cases e)).trans hX
  have rX1 := up rX
  have dX1 := up dX
  have iX1 : I k X1 := hI k X X1 none iX gX (fun r e => by cases e)
  have ltX1 : D + 1 < X1.heap.size := (Array.getElem?_eq_some_iff.1 rX1).1
  have oX1 : X1.heap[X.heap.size]? = some (.cells #[.int .i64 (pt T k).x, .int .i64 (pt T k).y, .int .i64 (pt T k).z] tp) := by rw [hX1]; exact World.alloc_heap_new X _
  refine ⟨fn, _, assign, body, run_yield (P := P) (args := #[(pt T k).v]) rX (by simp [R, hps]), roundIn_of_wpIn hfn (hassign _ k X _ _ hk rfl ?_)⟩
  rw [<- hX1]
  refine ⟨_, run_beginRound rX1 rfl, ?_⟩
  let Y : World := X1.putObj (D + 1) (.loop { R .ready none with state := .busy })
  have rY : Y.heap[D + 1]? = some (.loop { R .ready none with state := .busy }) := World.putObj_heap_same ltX1
  have dY : Y.heap[D]? = some (.deferred (some [])) := (World.putObj_heap_other (by omega)).trans dX1
  have gY : X1.grownBy Y (some (D + 1)) := grownBy_putObj' X1 (D + 1) _
  have iZ0 : ∀ Z : World, Y.grownBy Z (some X.heap.size) -> I k Z := fun Z hZ => by
   refine hI k X Z (some (D + 1)) iX ⟨hZ.os.trans (gY.os.trans gX.os), hZ.tape.trans (gY.tape.trans gX.tape), hZ.output.trans (gY.output.trans gX.output), Nat.le_trans gX.size (Nat.le_trans gY.size hZ.size), fun j hj hn => ?_⟩ (fun r e => by cases e; exact ⟨by omega, _, rX, rfl⟩)
   have hs1 := gX.size
   have hs2 := gY.size
   exact (hZ.block j (by omega) (fun e => by cases e; omega)).trans ((gY.block j (by omega) hn).trans (gX.block j hj (fun e => by cases e)))
  refine wpIn_mono (hbody _ k Y X.heap.size hk iZ0 (by omega) ((World.putObj_heap_other (by omega)).trans oX1)) ?_
  have far : ∀ (o : Obj) (Z : World), KeepsFrom D Y Z -> KeepsFrom (D + 2) X (Z.putObj (D + 1) o) := fun o Z hZ =>
   ⟨by have h9 := hZ.size; have h8 := gX.size; simp [Y] at h9 ⊢; omega, fun j o' hj hX ho => (World.putObj_heap_other (by omega)).trans (hZ.same j o' (by omega) ((World.putObj_heap_other (by omega)).trans (up hX)) ho)⟩
  have ends : ∀ (jump : Option Code) (Z : World), KeepsFrom D Y Z -> (Instr.endRound (D + 1) jump).run P Z = .ok (.bool jump.isNone) (Z.putObj (D + 1) (.loop (R (if jump.isNone then .ready else .done) jump))) /\ Z.heap[D + 1]? = some (.loop { R .ready none with state := .busy }) /\
    (Z.putObj (D + 1) (.loop (R (if jump.isNone then .ready else .done) jump))).heap[D + 1]? = some (.loop (R (if jump.isNone then .ready else .done) jump)) /\ (Z.putObj (D + 1) (.loop (R (if jump.isNone then .ready else .done) jump))).heap[D]? = some (.deferred (some [])) := by
   intro jump Z hZ
   have rZ := hZ.same _ _ (by omega) rY rfl
   exact ⟨run_endRound (P := P) jump rZ, rZ, World.putObj_heap_same (Array.getElem?_eq_some_iff.1 rZ).1, (World.putObj_heap_other (by omega)).trans (hZ.same _ _ (Nat.le_refl _) dY rfl)⟩
  intro e a3 Z hp
  cases e with
  | normal =>
   obtain ⟨hZ, kZ, iZ⟩ := hp
   obtain ⟨e1, e2, e3, e4⟩ := ends none Z hZ
   exact ⟨_, _, e1, rfl, ⟨hI.putObj _ iZ (by omega) e2 rfl, e3, e4⟩, (⟨Nat.le_trans gX.size (Nat.le_trans gY.size kZ.size), fun q v hq hv => kZ.cell q v ⟨hq, fun e => by have := World.block_lt_of_cell? _ _ hv; omega⟩ (((KeepC.grown (S := S) gX).trans (KeepC.put _ rX1 rfl)).cell q v hq hv)⟩ : KeepC S X Z).trans (KeepC.put _ e2 rfl), hD ▸ far _ Z hZ⟩
  | ret => exact hp.elim
  | exit id => exact hp.elim
  | goto t => exact hp.elim
  | panic ch => exact hp.elim
  | outgrown => exact hp.elim
 ·rintro e X ⟨⟨v, rfl⟩, iX, rX, dX⟩
  exact ⟨none, _, run_endLoop (P := P) rX (by simp [R]), hdone D _ (Nat.le_refl _) (hI.putObj _ iX (by omega) rX rfl) ((World.putObj_heap_other (by omega)).trans dX)⟩
end
section
theorem Pt.ne_O {n : Pt} (h : n ≠ Pt.O) : n.x ≠ 0 \/ n.y ≠ 0 \/ n.z ≠ 0 := by
 cases n with
 | mk a b c =>
  simp only [Pt.O, ne_eq, Pt.mk.injEq] at h
  dsimp only
  omega
theorem det_plane {n x y z : Pt} (hn : n ≠ Pt.O) (h1 : n.dot x = 0) (h2 : n.dot y = 0) (h3 : n.dot z = 0) : (x.cross y).dot z = 0 := by
 have i1 : (x.cross y).dot z * n.x = n.dot x * (y.cross z).x + n.dot y * (z.cross x).x + n.dot z * (x.cross y).x := by simp only [Pt.dot, Pt.cross]; grind
 have i2 : (x.cross y).dot z * n.y = n.dot x * (y.cross z).y + n.dot y * (z.cross x).y + n.dot z * (x.cross y).y := by simp only [Pt.dot, Pt.cross]; grind
 have i3 : (x.cross y).dot z * n.z = n.dot x * (y.cross z).z + n.dot y * (z.cross x).z + n.dot z * (x.cross y).z := by simp only [Pt.dot, Pt.cross]; grind
 rw [h1, h2, h3] at i1 i2 i3
 simp only [Int.zero_mul, Int.add_zero] at i1 i2 i3
 rcases Pt.ne_O hn with h | h | h
 ·exact (Int.mul_eq_zero.1 i1).resolve_right h
 ·exact (Int.mul_eq_zero.1 i2).resolve_right h
 ·exact (Int.mul_eq_zero.1 i3).resolve_right h
theorem cross_line {u x y : Pt} (hu : u ≠ Pt.O) (h1 : u.cross x = Pt.O) (h2 : u.cross y = Pt.O) : x.cross y = Pt.O := by
 simp only [Pt.cross, Pt.O, Pt.mk.injEq] at *
 obtain ⟨a1, a2, a3⟩ := h1
 obtain ⟨b1, b2, b3⟩ := h2
 have key : ∀ k : Int, (k = u.x \/ k = u.y \/ k = u.z) -> k * (x.y * y.z - x.z * y.y) = 0 /\ k * (x.z * y.x - x.x * y.z) = 0 /\ k * (x.x * y.y - x.y * y.x) = 0 := by
  intro k hk
  rcases hk with rfl | rfl | rfl
  ·refine ⟨by grind, by grind, by grind⟩
  ·refine ⟨by grind, by grind, by grind⟩
  ·refine ⟨by grind, by grind, by grind⟩
 have : ∃ k : Int, k ≠ 0 /\ (k = u.x \/ k = u.y \/ k = u.z) := by
  rcases Pt.ne_O hu with h | h | h
  ·exact ⟨_, h, Or.inl rfl⟩
  ·exact ⟨_, h, Or.inr (Or.inl rfl)⟩
  ·exact ⟨_, h, Or.inr (Or.inr rfl)⟩
 obtain ⟨k, h0, hk⟩ := this
 obtain ⟨c1, c2, c3⟩ := key k hk
 exact ⟨(Int.mul_eq_zero.1 c1).resolve_left h0, (Int.mul_eq_zero.1 c2).resolve_left h0, (Int.mul_eq_zero.1 c3).resolve_left h0⟩
def vol (p q r s : Pt) : Int := ((q.sub p).cross (r.sub p)).dot (s.sub p)
def flatP (L : List Pt) : Bool := L.all fun c => L.all fun m => decide (vol (pt L 0) (pt L 1) c m = 0)
def flatAll (L : List Pt) : Prop := ∀ p ∈ L, ∀ q ∈ L, ∀ r ∈ L, ∀ s ∈ L, vol p q r s = 0
theorem sub_O {a b : Pt} (h : a ≠ b) : b.sub a ≠ Pt.O := by
 intro e
 cases a; cases b
 simp only [Pt.sub, Pt.O, Pt.mk.injEq, ne_eq] at *
 omega
theorem flatP_iff {L : List Pt} (h2 : 2 <= L.length) (hne : pt L 0 ≠ pt L 1) : flatP L = true ↔ flatAll L := by
 have m0 : pt L 0 ∈ L := pt_mem (by omega)
 have m1 : pt L 1 ∈ L := pt_mem (by omega)
 constructor
 ·intro h
  have hv : ∀ c ∈ L, ∀ m ∈ L, vol (pt L 0) (pt L 1) c m = 0 := by
   intro c hc m hm
   have := List.all_eq_true.1 (List.all_eq_true.1 h c hc) m hm
   simpa using this
  generalize pt L 0 = a at *
  generalize pt L 1 = b at *
  have hu := sub_O hne
  intro p hp q hq r hr s hs
  by_cases hc : ∃ c ∈ L, (b.sub a).cross (c.sub a) ≠ Pt.O
  ·obtain ⟨c, hc, hn⟩ := hc
   have d : ∀ m ∈ L, ((b.sub a).cross (c.sub a)).dot (m.sub a) = 0 := fun m hm => hv c hc m hm
   generalize (b.sub a).cross (c.sub a) = n at *
   have dd : ∀ m ∈ L, n.dot (m.sub p) = 0 := by
    intro m hm
    have e1 := d m hm
    have e2 := d p hp
    have : n.dot (m.sub p) = n.dot (m.sub a) - n.dot (p.sub a) := by simp only [Pt.dot, Pt.sub]; grind
    rw [this, e1, e2]; rfl
   exact det_plane hn (dd q hq) (dd r hr) (dd s hs)
  ·have hl : ∀ c ∈ L, (b.sub a).cross (c.sub a) = Pt.O := fun c hcl => Classical.byContradiction fun e => hc ⟨c, hcl, e⟩
   have ll : ∀ c ∈ L, (b.sub a).cross (c.sub p) = Pt.O := by
    intro c hcl
    have e1 := hl c hcl
    have e2 := hl p hp
    generalize b.sub a = u at *
    simp only [Pt.cross, Pt.sub, Pt.O, Pt.mk.injEq] at *
    refine ⟨by grind, by grind, by grind⟩
   have := cross_line hu (ll q hq) (ll r hr)
   unfold vol
   rw [this]
   simp [Pt.dot, Pt.O]
 ·intro h
  refine List.all_eq_true.2 fun c hc => List.all_eq_true.2 fun m hm => ?_
  simpa using h _ m0 _ m1 c hc m hm
def flatR (L : List Pt) : Prop := ∀ i k m o, m < k -> k < i -> i < L.length -> o < L.length -> vol (pt L m) (pt L k) (pt L i) (pt L o) = 0
theorem flatR_iff {L : List Pt} (h2 : 2 <= L.length) (hne : pt L 0 ≠ pt L 1) : flatR L ↔ flatP L = true := by
 constructor
 ·intro h
  refine List.all_eq_true.2 fun c hc => List.all_eq_true.2 fun m hm => ?_
  obtain ⟨i, hi, rfl⟩ := pt_of_mem hc
  obtain ⟨o, ho, rfl⟩ := pt_of_mem hm
  by_cases e0 : i = 0
  ·subst e0
   rw [decide_eq_true_eq]
   simp only [vol, Pt.cross, Pt.sub, Pt.dot]
   grind
  ·by_cases e1 : i = 1
   ·subst e1
    rw [decide_eq_true_eq]
    simp only [vol, Pt.cross, Pt.sub, Pt.dot]
    grind
   ·simpa using h i 1 0 o (by omega) (by omega) hi ho
 ·intro h i k m o h1 h3 hi ho
  exact (flatP_iff h2 hne).1 h _ (pt_mem (by omega)) _ (pt_mem (by omega)) _ (pt_mem hi) _ (pt_mem ho)
def above (L : List Pt) (n a : Pt) : Bool := L.any fun m => decide (0 < n.dot (m.sub a))
def below (L : List Pt) (n a : Pt) : Bool := L.any fun m => decide (n.dot (m.sub a) < 0)
def withAxisP (A : List Pt) (n : Pt) : List Pt := if n ∈ A then A else A ++ [n]
def withEdgeP (E : List Pt) (e : Pt) : List Pt := if e.short ∈ E \/ e.short.neg ∈ E then E else E ++ [e.short]
def withEdgesP (E : List Pt) (more : List Pt) : List Pt := more.foldl withEdgeP E
def triP (L : List Pt) (a b c : Pt) (s : List Pt × List Pt) : List Pt × List Pt :=
 let n := (b.sub a).cross (c.sub a)
 if n = Pt.O \/ (above L n a = true /\ below L n a = true) then s
 else (withAxisP s.1 (if above L n a then n.neg else n).short, withEdgesP s.2 [b.sub a, c.sub a, c.sub b])
def innerP (L : List Pt) (a b : Pt) : List Pt -> List Pt × List Pt -> List Pt × List Pt
 | [], s => s
 | c :: r, s => innerP L a b r (triP L a b c s)
def midP (L : List Pt) (a : Pt) : List Pt -> List Pt × List Pt -> List Pt × List Pt
 | [], s => s
 | b :: r, s => midP L a r (innerP L a b r s)
def outerP (L : List Pt) : List Pt -> List Pt × List Pt -> List Pt × List Pt
 | [], s => s
 | a :: r, s => outerP L r (midP L a r s)
def sidesP (L : List Pt) : List Pt × List Pt := outerP L L ([], [])
end
section
theorem neg_neg' (p : Pt) : p.neg.neg = p := by cases p; simp [Pt.neg]
theorem neg_ne {p : Pt} (h : p ≠ Pt.O) : p.neg ≠ Pt.O := fun e => h (by rw [<- neg_neg' p, e]; decide)
structure TidyD (A E : List Pt) : Prop where
 a0 : ∀ p ∈ A, p ≠ Pt.O /\ p.short = p
 a1 : A.Nodup
 e0 : ∀ p ∈ E, p ≠ Pt.O /\ p.short = p
 e1 : E.Pairwise fun p q => p ≠ q /\ p ≠ q.neg
theorem tidy_nil : TidyD [] [] := ⟨by simp, List.nodup_nil, by simp, List.Pairwise.nil⟩
theorem tidy_axis {A E : List Pt} (h : TidyD A E) {n : Pt} (hb : n.inB 4398046511104 = true) (hn : n ≠ Pt.O) : TidyD (withAxisP A n.short) E := by
 unfold withAxisP
 split
 ·exact h
 ·rename_i hno
  refine ⟨fun p hp => ?_, ?_, h.e0, h.e1⟩
  ·rw [List.mem_append, List.mem_singleton] at hp
   rcases hp with hp | rfl
   ·exact h.a0 p hp
   ·exact ⟨short_ne hb hn, short_again n⟩
  ·rw [List.nodup_append]
   refine ⟨h.a1, by simp, fun a ha b hb => ?_⟩
   rw [List.mem_singleton] at hb
   subst hb
   exact fun e => hno (e ▸ ha)
theorem tidy_edge {A E : List Pt} (h : TidyD A E) {e : Pt} (hb : e.inB 4398046511104 = true) (hn : e ≠ Pt.O) : TidyD A (withEdgeP E e) := by
 unfold withEdgeP
 split
 ·exact h
 ·rename_i hno
  refine ⟨h.a0, h.a1, fun p hp => ?_, ?_⟩
  ·rw [List.mem_append, List.mem_singleton] at hp
   rcases hp with hp | rfl
   ·exact h.e0 p hp
   ·exact ⟨short_ne hb hn, short_again e⟩
  ·rw [List.pairwise_append]
   refine ⟨h.e1, List.pairwise_singleton _ _, fun a ha b hb => ?_⟩
   rw [List.mem_singleton] at hb
   subst hb
   exact ⟨fun e => hno (Or.inl (e ▸ ha)), fun e => hno (Or.inr (e ▸ ha))⟩
theorem mul_in {a b A B : Int} (ha : -A <= a /\ a <= A) (hb : -B <= b /\ b <= B) : -(A * B) <= a * b /\ a * b <= A * B := by
 have h1 := Int.mul_nonneg (show 0 <= A - a by omega) (show 0 <= B - b by omega)
 have h2 := Int.mul_nonneg (show 0 <= A + a by omega) (show 0 <= B + b by omega)
 have h3 := Int.mul_nonneg (show 0 <= A - a by omega) (show 0 <= B + b by omega)
 have h4 := Int.mul_nonneg (show 0 <= A + a by omega) (show 0 <= B - b by omega)
 simp only [Int.mul_add, Int.add_mul, Int.mul_sub, Int.sub_mul] at h1 h2 h3 h4
 omega
theorem cross_in {p q : Pt} (hp : p.inB 131072 = true) (hq : q.inB 131072 = true) : (p.cross q).inB 34359738368 = true := by
 rw [Pt.inB_iff] at *
 unfold Pt.cross
 dsimp only
 obtain ⟨a1, a2, a3⟩ := hp
 obtain ⟨b1, b2, b3⟩ := hq
 have h1 := mul_in a2 b3
 have h2 := mul_in a3 b2
 have h3 := mul_in a3 b1
 have h4 := mul_in a1 b3
 have h5 := mul_in a1 b2
 have h6 := mul_in a2 b1
 omega
theorem sub_in {p q : Pt} {m : Int} (hp : p.inB m = true) (hq : q.inB m = true) : (p.sub q).inB (2 * m) = true := by
 rw [Pt.inB_iff] at *
 unfold Pt.sub
 dsimp only
 omega
theorem sub_ne {p q : Pt} (h : q ≠ p) : q.sub p ≠ Pt.O := sub_O fun e => h e.symm
theorem tri_tidy {L : List Pt} {a b c : Pt} {s : List Pt × List Pt} (h : TidyD s.1 s.2) (ha : a.inB 65536 = true) (hb : b.inB 65536 = true) (hc : c.inB 65536 = true) (h1 : b ≠ a) (h2 : c ≠ a) (h3 : c ≠ b) :
  TidyD (triP L a b c s).1 (triP L a b c s).2 := by
 unfold triP
 dsimp only
 split
 ·exact h
 ·rename_i hno
  have hn : (b.sub a).cross (c.sub a) ≠ Pt.O := fun e => hno (Or.inl e)
  have hin := inB_mono (cross_in (sub_in hb ha) (sub_in hc ha)) (n := 4398046511104) (by decide)
  have big : ∀ {p q : Pt}, p.inB 65536 = true -> q.inB 65536 = true -> (p.sub q).inB 4398046511104 = true := fun hp hq => inB_mono (sub_in hp hq) (by decide)
  refine tidy_edge (tidy_edge (tidy_edge (tidy_axis h ?_ ?_) (big hb ha) (sub_ne h1)) (big hc ha) (sub_ne h2)) (big hc hb) (sub_ne h3)
  ·split
   ·rw [neg_in]; exact hin
   ·exact hin
  ·split
   ·exact neg_ne hn
   ·exact hn
theorem inner_tidy {L : List Pt} {a b : Pt} (ha : a.inB 65536 = true) (hb : b.inB 65536 = true) (hab : b ≠ a) : ∀ (M : List Pt) (s : List Pt × List Pt), (∀ c ∈ M, c.inB 65536 = true /\ c ≠ a /\ c ≠ b) -> TidyD s.1 s.2 -> TidyD (innerP L a b M s).1 (innerP L a b M s).2
 | [], s, _, h => h
 | c :: r, s, hM, h => by
  obtain ⟨k1, k2, k3⟩ := hM c (by simp)
  exact inner_tidy ha hb hab r _ (fun d hd => hM d (by simp [hd])) (tri_tidy h ha hb k1 hab k2 k3)
theorem mid_tidy {L : List Pt} {a : Pt} (ha : a.inB 65536 = true) : ∀ (M : List Pt) (s : List Pt × List Pt), (∀ b ∈ M, b.inB 65536 = true /\ b ≠ a) -> M.Nodup -> TidyD s.1 s.2 -> TidyD (midP L a M s).1 (midP L a M s).2
 | [], s, _, _, h => h
 | b :: r, s, hM, hd, h => by
  obtain ⟨k1, k2⟩ := hM b (by simp)
  rw [List.nodup_cons] at hd
  exact mid_tidy ha r _ (fun d hd => hM d (by simp [hd])) hd.2 (inner_tidy ha k1 k2 r _ (fun c hc => ⟨(hM c (by simp [hc])).1, (hM c (by simp [hc])).2, fun e => hd.1 (e ▸ hc)⟩) h)
theorem outer_tidy {L : List Pt} : ∀ (M : List Pt) (s : List Pt × List Pt), (∀ b ∈ M, b.inB 65536 = true) -> M.Nodup -> TidyD s.1 s.2 -> TidyD (outerP L M s).1 (outerP L M s).2
 | [], s, _, _, h => h
 | a :: r, s, hM, hd, h => by
  have k1 := hM a (by simp)
  rw [List.nodup_cons] at hd
  exact outer_tidy r _ (fun d hd => hM d (by simp [hd])) hd.2 (mid_tidy k1 r _ (fun b hb => ⟨hM b (by simp [hb]), fun e => hd.1 (e ▸ hb)⟩) hd.2 h)
theorem sides_tidy {L : List Pt} (hL : ∀ b ∈ L, b.inB 65536 = true) (hd : L.Nodup) : TidyD (sidesP L).1 (sidesP L).2 := outer_tidy L _ hL hd tidy_nil
end
section
open Go.RowKit Go.Shelf
theorem prod_in {x y A B : Int} (hx : -A <= x /\ x <= A) (hy : -B <= y /\ y <= B) (h : A * B <= 1152921504606846976) : -1152921504606846976 <= x * y /\ x * y <= 1152921504606846976 := by
 have := mul_in hx hy
 omega
set_option maxHeartbeats 1000000 in
theorem divided_any (p : Pt) (n : Int) (w : World) (hp : p.inB 1152921504606846976 = true) (hn : 0 < n) (hn' : n <= 1152921504606846976):
  Calls Tryz.prog 112 #[p.v, .int .i64 n] w fun e W => e = .returned (p.by n).v /\ Below w.heap.size w W := by
 obtain ⟨x, y, z⟩ := p
 rw [Pt.inB_iff] at hp
 unfold Pt.v Pt.by
 dsimp only at *
 go_enter Tryz.func112, Tryz.ntmps112
 go_wp2
 go_region
 go_wp2
 exact bodyPost_ret (v := .agg #[.int .i64 (x.tdiv n), .int .i64 (y.tdiv n), .int .i64 (z.tdiv n)]) (by simp [results, Tryz.results112, go_sem]) rfl ⟨rfl, (((Below.refl _ w).alloc (Nat.le_refl _) _).alloc (by simp) _).drew⟩
set_option maxHeartbeats 1000000 in
theorem within_any (p : Pt) (m : Int) (w : World) (hm : 0 <= m) (hm' : m <= 1152921504606846976) :
  Calls Tryz.prog 110 #[p.v, .int .i64 m] w fun e W => e = .returned (.bool (p.inB m)) /\ Below w.heap.size w W := by
 obtain ⟨x, y, z⟩ := p
 have HE : Hid (∀ b : Bool, (b = true ↔ (-m <= x /\ x <= m) /\ (-m <= y /\ y <= m) /\ (-m <= z /\ z <= m)) -> Pt.inB ⟨x, y, z⟩ m = b) := fun b h => by
  rw [Bool.eq_iff_iff, h, Pt.inB_iff]
 unfold Pt.v
 go_enter Tryz.func110, Tryz.ntmps110
 go_wp2
 all_goals
  go_ret
  exact ⟨congrArg (fun b => Ending.returned (.bool b)) (HE.out _ ⟨fun h => by first | (cases h; done) | omega | (have h' := of_decide_eq_true h; omega), fun h => by first | rfl | (exfalso; omega) | exact decide_eq_true (by omega)⟩).symm, n_after w _⟩
theorem gcd_step {x y : Int} (h : y ≠ 0) : Nat.gcd y.natAbs (x.tmod y).natAbs = Nat.gcd x.natAbs y.natAbs := by
 rw [Int.natAbs_tmod, Nat.gcd_comm x.natAbs, Nat.gcd_rec y.natAbs x.natAbs, Nat.gcd_comm]
theorem tmod_lt {x y : Int} (h : y ≠ 0) : (x.tmod y).natAbs < y.natAbs := by
 rw [Int.natAbs_tmod]; exact Nat.mod_lt _ (by omega)
set_option maxHeartbeats 1000000 in
theorem gcd_any (a b : Int) (w : World) (ha : -1152921504606846976 <= a /\ a <= 1152921504606846976) (hb : -1152921504606846976 <= b /\ b <= 1152921504606846976) :
  Calls Tryz.prog 138 #[.int .i64 a, .int .i64 b] w fun e W => e = .returned (.int .i64 (Nat.gcd a.natAbs b.natAbs : Nat)) /\ Below w.heap.size w W := by
 go_enter Tryz.func138, Tryz.ntmps138
 go_wp2
 go_loopw [0, 1] (fun s t wr => ∃ x y : Int, s = .int .i64 x /\ t = .int .i64 y /\ (-1152921504606846976 <= x /\ x <= 1152921504606846976) /\ (-1152921504606846976 <= y /\ y <= 1152921504606846976) /\ Hid (Nat.gcd x.natAbs y.natAbs = Nat.gcd a.natAbs b.natAbs) /\ Hid (Below w.heap.size w wr)) (fun _ t _ => (intOf t).natAbs)
 case atStart => exact ⟨a, b, rfl, rfl, ha, hb, rfl, Below.refl _ _⟩
 case round =>
  obtain ⟨x, y, rfl, rfl, hx, hy, HG, HB⟩ := hrel
  by_cases h0 : y = 0
  ·subst h0
   have HE : Hid (((Nat.gcd a.natAbs b.natAbs : Nat) : Int) = if x < -x then -x else x) := by
    show _ = _
    rw [<- HG.out]
    simp only [Int.natAbs_zero, Nat.gcd_zero_right]
    split <;> omega
   clear HG
   rcases Int.lt_trichotomy x 0 with h | h | h
   ·go_wp2
    go_ret
    refine ⟨?_, HB.out⟩
    rw [HE.out]
    exact congrArg (fun n => Ending.returned (.int .i64 n)) (by rw [if_pos (by omega)])
   ·subst h
    go_wp2
    go_ret
    exact ⟨by rw [HE.out]; rfl, HB.out⟩
   ·go_wp2
    go_ret
    refine ⟨?_, HB.out⟩
    rw [HE.out]
    exact congrArg (fun n => Ending.returned (.int .i64 n)) (by rw [if_neg (by omega)])
  ·have HS : Hid _ := gcd_step (x := x) h0
   have hlt := tmod_lt (x := x) h0
   go_wp2
   go_region
   go_wp2
   go_roundw
   case rel => exact ⟨y, x.tmod y, rfl, rfl, hy, by omega, HS.out.trans HG.out, HB.out.drew⟩
   case measure => exact hlt
end
section
open Go.RowKit Go.Shelf
theorem gcd_le {a b B : Nat} (ha : a <= B) (hb : b <= B) : Nat.gcd a b <= B := by
 by_cases h : a = 0
 ·subst h; rw [Nat.gcd_zero_left]; exact hb
 ·exact Nat.le_trans (Nat.le_of_dvd (by omega) (Nat.gcd_dvd_left a b)) ha
set_option maxHeartbeats 1000000 in
set_option maxRecDepth 100000 in
theorem lowest_any (p : Pt) (w0 : World) (hp : p.inB 4398046511104 = true) :
  Calls Tryz.prog 111 #[p.v] w0 fun e W => e = .returned p.low.v /\ Below w0.heap.size w0 W := by
 have hq := hp
 rw [Pt.inB_iff] at hq
 have b1 : Nat.gcd p.x.natAbs p.y.natAbs <= 4398046511104 := gcd_le (by omega) (by omega)
 have b2 : p.g <= 4398046511104 := gcd_le b1 (by omega)
 have G1 : Hid _ := fun w' => gcd_any p.x p.y w' (by omega) (by omega)
 have G2 : Hid (∀ w', Calls Tryz.prog 138 #[.int .i64 (Nat.gcd p.x.natAbs p.y.natAbs : Nat), .int .i64 p.z] w' fun e W => e = .returned (.int .i64 (p.g : Nat)) /\ Below w'.heap.size w' W) := fun w' => gcd_any (Nat.gcd p.x.natAbs p.y.natAbs : Nat) p.z w' (by omega) (by omega)
 have HD : Hid (p.g ≠ 0 -> ∀ w', Calls Tryz.prog 112 #[p.v, .int .i64 (p.g : Nat)] w' fun e W => e = .returned (p.by p.g).v /\ Below w'.heap.size w' W) := fun h w' => divided_any p p.g w' (inB_mono hp (by decide)) (by omega) (by omega)
 have HL : Hid (p.low = if p.g = 0 then p else p.by p.g) := rfl
 generalize p.low = r at *
 generalize Nat.gcd p.x.natAbs p.y.natAbs = m1 at *
 generalize p.g = m2 at *
 obtain ⟨x, y, z⟩ := p
 clear hp hq
 unfold Pt.v at *
 dsimp only at *
 go_enter Tryz.func111, Tryz.ntmps111
 go_wp2_with (fail)
 obtain ⟨V, hV⟩ : ∃ V : World, V = ((w0.alloc (.cells #[.int .i64 x, .int .i64 y, .int .i64 z] 23)).alloc (.cells #[.int .i64 0, .int .i64 0, .int .i64 0] 23)) := ⟨_, rfl⟩
 have hBV : Below w0.heap.size w0 V := by rw [hV]; exact (((Below.refl _ w0).alloc (by simp; try omega) _).alloc (by simp; try omega) _)
 have V0_0 : V.cell? ⟨w0.heap.size, 0, none⟩ = some (.int .i64 x) := by rw [hV]; simp [go_sem]
 have V0_1 : V.cell? ⟨w0.heap.size, 1, none⟩ = some (.int .i64 y) := by rw [hV]; simp [go_sem]
 have V0_2 : V.cell? ⟨w0.heap.size, 2, none⟩ = some (.int .i64 z) := by rw [hV]; simp [go_sem]
 have V1_0 : V.cell? ⟨w0.heap.size + 1, 0, none⟩ = some (.int .i64 0) := by rw [hV]; simp [go_sem]
 have V1_1 : V.cell? ⟨w0.heap.size + 1, 1, none⟩ = some (.int .i64 0) := by rw [hV]; simp [go_sem]
 have V1_2 : V.cell? ⟨w0.heap.size + 1, 2, none⟩ = some (.int .i64 0) := by rw [hV]; simp [go_sem]
 have Vf1_0 : V.frozen? ⟨w0.heap.size + 1, 0, none⟩ = false := by rw [hV]; simp [go_sem]
 have Vf1_1 : V.frozen? ⟨w0.heap.size + 1, 1, none⟩ = false := by rw [hV]; simp [go_sem]
 have Vf1_2 : V.frozen? ⟨w0.heap.size + 1, 2, none⟩ = false := by rw [hV]; simp [go_sem]
 rw [<- hV]
 clear hV
 refine RV.region_by (fun j v w => match j with | 0 => v = .pointer (some ⟨w0.heap.size, 0, none⟩) | 1 => v = .int .i64 (x) | 2 => v = .pointer (some ⟨w0.heap.size, 1, none⟩) | 3 => v = .int .i64 (y) | 4 => v = .int .i64 ((m1 : Nat)) | 5 => v = .pointer (some ⟨w0.heap.size, 2, none⟩) | 6 => v = .int .i64 (z) | 7 => v = .int .i64 ((m2 : Nat)) | 8 => v = .int .i64 ((m2 : Nat)) | _ => True) (fun γ L w9 => Below V.heap.size V w9) (by kernel_rfl) (by kernel_rfl) (by kernel_rfl) (by kernel_rfl) ?_ ?_ ?_
 ·exact (Below.refl _ V).drew
 ·generalize hD : dstOf _ = D
  generalize hWA : waitsFor _ = WA
  generalize hZ : Act.mk _ _ = Z
  refine RV.AllDo.name ?_
  intro R hR
  have d0 : D 0 = some 4 := by rw [<- hD]; rfl
  have d1 : D 1 = some 5 := by rw [<- hD]; rfl
  have d2 : D 2 = some 6 := by rw [<- hD]; rfl
  have d3 : D 3 = some 7 := by rw [<- hD]; rfl
  have d4 : D 4 = some 8 := by rw [<- hD]; rfl
  have d5 : D 5 = some 9 := by rw [<- hD]; rfl
  have d6 : D 6 = some 10 := by rw [<- hD]; rfl
  have d7 : D 7 = some 11 := by rw [<- hD]; rfl
  have d8 : D 8 = some 3 := by rw [<- hD]; rfl
  have r0 : ∀ v w, R 0 v w = (v = .pointer (some ⟨w0.heap.size, 0, none⟩)) := fun v w => by rw [hR]; rfl
  have r1 : ∀ v w, R 1 v w = (v = .int .i64 (x)) := fun v w => by rw [hR]; rfl
  have r2 : ∀ v w, R 2 v w = (v = .pointer (some ⟨w0.heap.size, 1, none⟩)) := fun v w => by rw [hR]; rfl
  have r3 : ∀ v w, R 3 v w = (v = .int .i64 (y)) := fun v w => by rw [hR]; rfl
  have r4 : ∀ v w, R 4 v w = (v = .int .i64 ((m1 : Nat))) := fun v w => by rw [hR]; rfl
  have r5 : ∀ v w, R 5 v w = (v = .pointer (some ⟨w0.heap.size, 2, none⟩)) := fun v w => by rw [hR]; rfl
  have r6 : ∀ v w, R 6 v w = (v = .int .i64 (z)) := fun v w => by rw [hR]; rfl
  have r7 : ∀ v w, R 7 v w = (v = .int .i64 ((m2 : Nat))) := fun v w => by rw [hR]; rfl
  have r8 : ∀ v w, R 8 v w = (v = .int .i64 ((m2 : Nat))) := fun v w => by rw [hR]; rfl
  have F1_ : ∀ j, D j ≠ some 1 := by rw [<- hD]; exact RV.dst_free (by kernel_rfl)
  have Z1_ : Z.tmps[1]? = some (.pointer (some ⟨w0.heap.size, 0, none⟩)) := by rw [<- hZ]; rfl
  have K : ∀ j v w w', R j v w -> R j v w' := by rw [hR]; intro j v w w' h; exact h
  clear hD hWA hZ hR
  refine RV.cc 0 (RV.dp (fun γ v L w hl h => h) (fun γ L a w hH hl hA => by have e0 := ((hH.rest 1 F1_).trans Z1_); exact ⟨.pointer (some ⟨w0.heap.size, 0, none⟩), by simp [execOp, go_sem, e0], (r0 _ _).mpr rfl⟩)) ?_
  refine RV.cc 1 (RV.dp (fun γ v L w hl h => h) (fun γ L a w hH hl hA => by have e0 := hH.got d0 r0 (hA ⟨0, .data⟩ (by simp) rfl); have hB9 := hH.glob; have z0 := c_after hB9 V0_0; exact ⟨.int .i64 (x), by simp [execOp, go_sem, e0, z0], (r1 _ _).mpr rfl⟩)) ?_
  refine RV.cc 2 (RV.dp (fun γ v L w hl h => h) (fun γ L a w hH hl hA => by have e0 := ((hH.rest 1 F1_).trans Z1_); exact ⟨.pointer (some ⟨w0.heap.size, 1, none⟩), by simp [execOp, go_sem, e0], (r2 _ _).mpr rfl⟩)) ?_
  refine RV.cc 3 (RV.dp (fun γ v L w hl h => h) (fun γ L a w hH hl hA => by have e0 := hH.got d2 r2 (hA ⟨2, .data⟩ (by simp) rfl); have hB9 := hH.glob; have z0 := c_after hB9 V0_1; exact ⟨.int .i64 (y), by simp [execOp, go_sem, e0, z0], (r3 _ _).mpr rfl⟩)) ?_
  refine RV.cc 4 (RV.dc (fun γ L a w hH hl hA => by have e0 := hH.got d1 r1 (hA ⟨1, .data⟩ (by simp) rfl); have e1 := hH.got d3 r3 (hA ⟨3, .data⟩ (by simp) rfl); have hB9 := hH.glob; exact ⟨138, #[.int .i64 (x), .int .i64 (y)], by simp [go_sem, e0, e1], Calls.mono (G1.out w) (by rintro e w2 ⟨rfl, hb⟩; exact ⟨_, rfl, (r4 _ _).mpr rfl, fun j v _ h => K j v _ _ h, hB9.trans (hb.mono hB9.size)⟩)⟩)) ?_
  refine RV.cc 5 (RV.dp (fun γ v L w hl h => h) (fun γ L a w hH hl hA => by have e0 := ((hH.rest 1 F1_).trans Z1_); exact ⟨.pointer (some ⟨w0.heap.size, 2, none⟩), by simp [execOp, go_sem, e0], (r5 _ _).mpr rfl⟩)) ?_
  refine RV.cc 6 (RV.dp (fun γ v L w hl h => h) (fun γ L a w hH hl hA => by have e0 := hH.got d5 r5 (hA ⟨5, .data⟩ (by simp) rfl); have hB9 := hH.glob; have z0 := c_after hB9 V0_2; exact ⟨.int .i64 (z), by simp [execOp, go_sem, e0, z0], (r6 _ _).mpr rfl⟩)) ?_
  refine RV.cc 7 (RV.dc (fun γ L a w hH hl hA => by have e0 := hH.got d4 r4 (hA ⟨4, .data⟩ (by simp) rfl); have e1 := hH.got d6 r6 (hA ⟨6, .data⟩ (by simp) rfl); have hB9 := hH.glob; exact ⟨138, #[.int .i64 ((m1 : Nat)), .int .i64 (z)], by simp [go_sem, e0, e1], Calls.mono (G2.out w) (by rintro e w2 ⟨rfl, hb⟩; exact ⟨_, rfl, (r7 _ _).mpr rfl, fun j v _ h => K j v _ _ h, hB9.trans (hb.mono hB9.size)⟩)⟩)) ?_
  refine RV.cc 8 (RV.dp (fun γ v L w hl h => h) (fun γ L a w hH hl hA => by have e0 := hH.got d7 r7 (hA ⟨7, .data⟩ (by simp) rfl); exact ⟨.int .i64 ((m2 : Nat)), by simp [execOp, go_sem, e0], (r8 _ _).mpr rfl⟩)) ?_
  exact RV.AllDo.nil
 ·intro γ a5 w5 L9 hL hLo hH
  have ha := RV.held_act hH hL (by kernel_rfl) (by kernel_rfl)
  have hb8 := hH.glob
  have y0 : γ 0 = .pointer (some ⟨w0.heap.size, 0, none⟩) := hH.holds 0 (hL 0 (by decide))
  have y1 : γ 1 = .int .i64 (x) := hH.holds 1 (hL 1 (by decide))
  have y2 : γ 2 = .pointer (some ⟨w0.heap.size, 1, none⟩) := hH.holds 2 (hL 2 (by decide))
  have y3 : γ 3 = .int .i64 (y) := hH.holds 3 (hL 3 (by decide))
  have y4 : γ 4 = .int .i64 ((m1 : Nat)) := hH.holds 4 (hL 4 (by decide))
  have y5 : γ 5 = .pointer (some ⟨w0.heap.size, 2, none⟩) := hH.holds 5 (hL 5 (by decide))
  have y6 : γ 6 = .int .i64 (z) := hH.holds 6 (hL 6 (by decide))
  have y7 : γ 7 = .int .i64 ((m2 : Nat)) := hH.holds 7 (hL 7 (by decide))
  have y8 : γ 8 = .int .i64 ((m2 : Nat)) := hH.holds 8 (hL 8 (by decide))
  rw [ha]
  clear ha hH hL hLo
  simp only [RV.putAll, Act.put, List.setIfInBounds_toArray, List.set_cons_zero, List.set_cons_succ, Nat.zero_add, Nat.reduceAdd, y0, y1, y2, y3, y4, y5, y6, y7, y8]
  clear y0 y1 y2 y3 y4 y5 y6 y7 y8
  have hB5 := hBV.trans (hb8.mono hBV.size)
  have p0 := c_after hb8 V0_0
  have p1 := c_after hb8 V0_1
  have p2 := c_after hb8 V0_2
  have q0 := c_after hb8 V1_0
  have q1 := c_after hb8 V1_1
  have q2 := c_after hb8 V1_2
  have k0 := f_after hb8 V1_0 Vf1_0
  have k1 := f_after hb8 V1_1 Vf1_1
  have k2 := f_after hb8 V1_2 Vf1_2
  by_cases h0 : m2 = 0
  ·have h0' : (m2 : Int) = 0 := by omega
   have e : r = ⟨x, y, z⟩ := by rw [HL.out, if_pos h0]
   subst e
   clear HL HD G1 G2 h0
   go_wp2_with (fail)
   refine bodyPost_ret (v := .agg #[.int .i64 x, .int .i64 y, .int .i64 z]) (by simp [results, Tryz.results111, go_sem, q0, q1, q2]) rfl ⟨rfl, ?_⟩
   exact (((hB5.setCell (by simp) _).setCell (by simp) _).setCell (by simp) _)
  ·have h0' : ¬ (m2 : Int) = 0 := by omega
   have e : r = Pt.by ⟨x, y, z⟩ m2 := by rw [HL.out, if_neg h0]
   have HD : Hid _ := HD.out h0
   rw [<- e] at HD
   obtain ⟨rx, ry, rz⟩ := r
   clear e HL G1 G2
   dsimp only at *
   go_wp2_with (fail)
   refine Calls.mono (HD.out _) ?_
   clear HD
   rintro e W9 ⟨rfl, hb9⟩
   have q0 := c_after hb9 q0
   have q1 := c_after hb9 q1
   have q2 := c_after hb9 q2
   have k0 := f_after hb9 (c_after hb8 V1_0) k0
   have k1 := f_after hb9 (c_after hb8 V1_1) k1
   have k2 := f_after hb9 (c_after hb8 V1_2) k2
   go_wp2
   refine bodyPost_ret (v := .agg #[.int .i64 rx, .int .i64 ry, .int .i64 rz]) (by simp [results, Tryz.results111, go_sem, q0, q1, q2]) rfl ⟨rfl, ?_⟩
   exact ((((b_step hB5 hb9).setCell (by simp) _).setCell (by simp) _).setCell (by simp) _)
theorem halveF_step (k : Nat) (q : Pt) (h : q.inB 1048576 = false) (hb : q.inB (2 ^ k : Nat) = true) : ∃ j, k = j + 1 /\ halveF k q = halveF j (q.by 2) /\ (q.by 2).inB (2 ^ j : Nat) = true := by
 cases k with
 | zero => rw [inB_mono hb (by decide)] at h; cases h
 | succ j =>
  refine ⟨j, rfl, by rw [halveF, if_neg (by rw [h]; decide)], half_in ?_⟩
  rw [Nat.pow_succ, Nat.mul_comm, Int.natCast_mul] at hb
  exact hb
theorem cast_pow (k : Nat) (h : k <= 43) : (((2 ^ k : Nat) : Nat) : Int) <= 8796093022208 := by
 have := Nat.pow_le_pow_right (n := 2) (by decide) h
 have e : 2 ^ 43 = 8796093022208 := by decide
 omega
set_option maxHeartbeats 1000000 in
set_option maxRecDepth 100000 in
theorem short_any (p : Pt) (w0 : World) :
  Calls Tryz.prog 70 #[p.v] w0 fun e W => e = .returned p.short.v /\ Below w0.heap.size w0 W := by
 have HW : Hid (∀ w', Calls Tryz.prog 110 #[p.v, .int .i64 4398046511104] w' fun e W => e = .returned (.bool (p.inB 4398046511104)) /\ Below w'.heap.size w' W) := fun w' => within_any p _ w' (by decide) (by decide)
 have HX : Hid (∀ q : Pt, ∀ w', Calls Tryz.prog 110 #[q.v, .int .i64 1048576] w' fun e W => e = .returned (.bool (q.inB 1048576)) /\ Below w'.heap.size w' W) := fun q w' => within_any q _ w' (by decide) (by decide)
 have HLO : Hid (∀ q : Pt, q.inB 4398046511104 = true -> ∀ w', Calls Tryz.prog 111 #[q.v] w' fun e W => e = .returned q.low.v /\ Below w'.heap.size w' W) := fun q hq w' => lowest_any q w' hq
 have HD : Hid (∀ q : Pt, q.inB 1152921504606846976 = true -> ∀ w', Calls Tryz.prog 112 #[q.v, .int .i64 2] w' fun e W => e = .returned (q.by 2).v /\ Below w'.heap.size w' W) := fun q hq w' => divided_any q 2 w' hq (by decide) (by decide)
 have bx0 : Hid (Box3 ((w0.alloc (.cells #[.int .i64 p.x, .int .i64 p.y, .int .i64 p.z] 23)).alloc (.cells #[.int .i64 0, .int .i64 0, .int .i64 0] 23)) w0.heap.size p) := (Box3.new w0 p.x p.y p.z _).step (n_after _ _)
 have bx1 : Hid (Box3 ((w0.alloc (.cells #[.int .i64 p.x, .int .i64 p.y, .int .i64 p.z] 23)).alloc (.cells #[.int .i64 0, .int .i64 0, .int .i64 0] 23)) (w0.heap.size + 1) Pt.O) := by have := Box3.new (w0.alloc (.cells #[.int .i64 p.x, .int .i64 p.y, .int .i64 p.z] 23)) 0 0 0 23; rwa [World.size_alloc] at this
 have hB0 : Hid (Below w0.heap.size w0 ((w0.alloc (.cells #[.int .i64 p.x, .int .i64 p.y, .int .i64 p.z] 23)).alloc (.cells #[.int .i64 0, .int .i64 0, .int .i64 0] 23))) := b_step (n_after w0 _) (n_after _ _)
 obtain ⟨r, hr⟩ : ∃ r, p.short = r := ⟨_, rfl⟩
 rw [hr]
 have HR : Hid _ := hr
 clear hr
 unfold Pt.v at *
 go_enter Tryz.func70, Tryz.ntmps70
 go_wp2_with (fail)
 refine Calls.mono (HW.out _) ?_
 clear HW
 rintro e V ⟨rfl, hb⟩
 have b0 : Hid _ := bx0.out.step hb
 have b1 : Hid _ := bx1.out.step hb
 have hB : Hid _ := b_step hB0.out hb
 clear bx0 bx1 hB0 hb
 cases hin : p.inB 4398046511104 with
 | false =>
  have e : r = Pt.O := by rw [<- HR.out]; unfold Pt.short; rw [if_neg (by rw [hin]; decide)]
  clear HR
  subst e
  obtain ⟨c0, c1, c2, f0, f1, f2⟩ := b1.out
  simp only [Pt.O] at c0 c1 c2
  go_wp2_with (fail)
  refine bodyPost_ret (v := .agg #[.int .i64 0, .int .i64 0, .int .i64 0]) (by simp [results, Tryz.results70, go_sem, c0, c1, c2]) rfl ⟨rfl, ?_⟩
  exact set3_below hB.out (by omega) 0 0 0
 | true =>
  have hlow := Pt.low_in hin
  have HR : Hid (r = (halveF 43 p.low).low) := by show _ = _; rw [<- HR.out]; unfold Pt.short; rw [if_pos hin]; rfl
  have HL1 : Hid _ := HLO.out p hin
  obtain ⟨c0, c1, c2, f0, f1, f2⟩ := b0.out
  go_wp2_with (fail)
  refine Calls.mono (HL1.out _) ?_
  clear HL1
  rintro e V2 ⟨rfl, hb⟩
  have b0 : Hid (Box3 (set3 V2 w0.heap.size p.low.x p.low.y p.low.z) w0.heap.size p.low) := (b0.out.step hb).set _ _ _
  have b1 : Hid (Box3 (set3 V2 w0.heap.size p.low.x p.low.y p.low.z) (w0.heap.size + 1) Pt.O) := (b1.out.step hb).other (by omega) _ _ _
  have hB : Hid (Below w0.heap.size w0 (set3 V2 w0.heap.size p.low.x p.low.y p.low.z)) := set3_below (b_step hB.out hb) (Nat.le_refl _) _ _ _
  have d0 := c_after hb c0
  have d1 := c_after hb c1
  have d2 := c_after hb c2
  have f0 := f_after hb c0 f0
  have f1 := f_after hb c1 f1
  have f2 := f_after hb c2 f2
  unfold set3 at b0 b1 hB
  clear hb c0 c1 c2
  go_wp2_with (fail)
  clear d0 d1 d2 f0 f1 f2
  have hL2 : p.low.inB (2 ^ 43 : Nat) = true := inB_mono hlow (by decide)
  go_loopg [] 43 (fun g wr => ∃ q : Pt, Hid (Box3 wr w0.heap.size q) /\ Hid (Box3 wr (w0.heap.size + 1) Pt.O) /\ Hid (Below w0.heap.size w0 wr) /\ g <= 43 /\ Hid (halveF g q = halveF 43 p.low) /\ Hid (q.inB (2 ^ g : Nat) = true))
  case atStart => exact ⟨p.low, b0, b1, hB, Nat.le_refl _, rfl, hL2⟩
  case round =>
   clear b0 b1 hB hL2
   obtain ⟨q, b0, b1, hB, hg, HF, HI⟩ := hrel
   have hG : Hid _ := hg
   clear hg
   obtain ⟨c0, c1, c2, f0, f1, f2⟩ := b0.out
   go_wp2_with (fail)
   refine Calls.mono (HX.out q _) ?_
   rintro e V3 ⟨rfl, hb⟩
   clear c0 c1 c2 f0 f1 f2
   have b0 : Hid _ := b0.out.step hb
   have b1 : Hid _ := b1.out.step hb
   have hB : Hid _ := b_step hB.out hb
   clear hb
   cases hq : q.inB 1048576 with
   | false =>
    obtain ⟨j, hj, ej, hin2⟩ := halveF_step _ q hq HI.out
    have HJ : Hid _ := And.intro hj (And.intro ej hin2)
    have hq2 : q.inB 1152921504606846976 = true := inB_mono HI.out (by have := cast_pow _ hG.out; omega)
    have HD2 : Hid _ := HD.out q hq2
    clear hj ej hin2 hq2
    obtain ⟨c0, c1, c2, f0, f1, f2⟩ := b0.out
    go_wp2_with (fail)
    refine Calls.mono (HD2.out _) ?_
    clear HD2
    rintro e V4 ⟨rfl, hb⟩
    have b0 : Hid (Box3 (set3 V4 w0.heap.size (q.by 2).x (q.by 2).y (q.by 2).z) w0.heap.size (q.by 2)) := (b0.out.step hb).set _ _ _
    have b1 : Hid (Box3 (set3 V4 w0.heap.size (q.by 2).x (q.by 2).y (q.by 2).z) (w0.heap.size + 1) Pt.O) := (b1.out.step hb).other (by omega) _ _ _
    have hB : Hid (Below w0.heap.size w0 (set3 V4 w0.heap.size (q.by 2).x (q.by 2).y (q.by 2).z)) := set3_below (b_step hB.out hb) (Nat.le_refl _) _ _ _
    have d0 := c_after hb c0
    have d1 := c_after hb c1
    have d2 := c_after hb c2
    have f0 := f_after hb c0 f0
    have f1 := f_after hb c1 f1
    have f2 := f_after hb c2 f2
    unfold set3 at b0 b1 hB
    clear hb c0 c1 c2
    go_wp2_with (fail)
    go_roundg j
    case measure => have := HJ.out.1; omega
    case rel => exact ⟨q.by 2, b0, b1, hB, by have := HJ.out.1; have := hG.out; omega, HJ.out.2.1.symm.trans HF.out, HJ.out.2.2⟩
   | true =>
    have e : r = q.low := by rw [HR.out, <- HF.out, halveF_id _ _ hq]
    have HL1 : Hid _ := HLO.out q (inB_mono hq (by decide))
    rw [<- e] at HL1
    clear e HR HF HI HX HLO HD
    obtain ⟨c0, c1, c2, f0, f1, f2⟩ := b0.out
    go_wp2_with (fail)
    refine Calls.mono (HL1.out _) ?_
    clear HL1 c0 c1 c2 f0 f1 f2
    rintro e V4 ⟨rfl, hb⟩
    obtain ⟨c0, c1, c2, f0, f1, f2⟩ := b1.out.step hb
    have hB : Hid _ := b_step hB.out hb
    go_wp2_with (fail)
    refine bodyPost_ret (v := .agg #[.int .i64 r.x, .int .i64 r.y, .int .i64 r.z]) (by simp [results, Tryz.results70, go_sem, c0, c1, c2]) rfl ⟨rfl, ?_⟩
    exact set3_below hB.out (by omega) _ _ _
end
end Go.Proofs.YtffjifhojedmkaaGreat
