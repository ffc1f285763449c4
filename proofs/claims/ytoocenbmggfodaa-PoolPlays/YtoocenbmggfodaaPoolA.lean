/- A pool in memory; its small functions. -/
import Derived.RangeFuncNested
import Derived.RangeFuncBound
import Derived.RangeFuncCalls
import Derived.RangeFuncLeaves
import Derived.Shelf.Abstract
import Derived.Shelf.RegionOpen
import Derived.WalkKit
import Derived.OwnWalkIn
import Derived.TacticsInMore
import Derived.LoopNIn
import Derived.LoopIn
import Derived.LoopTactic
import Derived.ProofKit
import Derived.Handy
import Derived.Test.YtoocenbmggfodaaProg
namespace Go.Proofs.Ytoocenbmggfodaa
open Go.RowKit Go.Shelf
attribute [local go_sem] Oper.semAt_some
set_option linter.unusedVariables false

/-- A place. -/
structure Pl where
  age : Int
  has : Bool
  x : Int
deriving Inhabited
def Pl.ok (p : Pl) : Prop := 0 ≤ p.age ∧ p.age ≤ 1073741825 ∧ (p.has = true → p.age ≤ 1073741824)

structure IsPool (W : World) (pp pl : Nat) (L : List Pl) : Prop where
  slice : ∃ cap : Nat, L.length ≤ cap ∧ cap ≤ 9223372036854775807 ∧ W.cell? ⟨pp, 0, none⟩ = some (.slice (some ⟨pl, 0, none⟩) L.length cap)
  ne : pl ≠ pp
  lt : pl < W.heap.size
  room : L.length ≤ 1024
  age : ∀ i : Nat, i < L.length → W.cell? ⟨pl, i * 3, none⟩ = some (.int .i64 (L[i]?.getD default).age)
  has : ∀ i : Nat, i < L.length → W.cell? ⟨pl, i * 3 + 1, none⟩ = some (.bool (L[i]?.getD default).has)
  x : ∀ i : Nat, i < L.length → W.cell? ⟨pl, i * 3 + 2, none⟩ = some (.int .i64 (L[i]?.getD default).x)
  free : ∀ o : Nat, o < 3 * L.length → W.frozen? ⟨pl, o, none⟩ = false
  ok : ∀ i : Nat, i < L.length → (L[i]?.getD default).ok

theorem IsPool.plt {W : World} {pp pl : Nat} {L : List Pl} (h : IsPool W pp pl L) : pp < W.heap.size := by
  obtain ⟨_, _, _, c⟩ := h.slice
  exact World.block_lt_of_cell? _ _ c
theorem IsPool.grown {w W : World} {pp pl : Nat} {L : List Pl} {row : Option Nat} (h : IsPool w pp pl L) (hg : w.grownBy W row) (h1 : some pl ≠ row) (h2 : some pp ≠ row) : IsPool W pp pl L where
  slice := h.slice.elim fun c h => ⟨c, h.1, h.2.1, hg.cell h.2.2 h2⟩
  ne := h.ne
  lt := Nat.lt_of_lt_of_le h.lt hg.size
  room := h.room
  age := fun i hi => hg.cell (h.age i hi) h1
  has := fun i hi => hg.cell (h.has i hi) h1
  x := fun i hi => hg.cell (h.x i hi) h1
  free := fun o ho => (World.frozen?_of_block (w := w) (hg.block pl h.lt h1)).trans (h.free o ho)
  ok := h.ok
theorem below_grown {w W : World} (h : Below w.heap.size w W) (row : Option Nat) : w.grownBy W row := ⟨h.os, h.tape, h.output, h.size, fun k hk _ => h.block k hk⟩
theorem IsPool.below {w W : World} {pp pl : Nat} {L : List Pl} (h : IsPool w pp pl L) (hb : Below w.heap.size w W) : IsPool W pp pl L := h.grown (below_grown hb none) (by simp) (by simp)
theorem G.trans {a b c : World} {row : Option Nat} (h : a.grownBy b row) (k : b.grownBy c row) : a.grownBy c row := ⟨k.os.trans h.os, k.tape.trans h.tape, k.output.trans h.output, Nat.le_trans h.size k.size, fun i hi hn => (k.block i (Nat.lt_of_lt_of_le hi h.size) hn).trans (h.block i hi hn)⟩
theorem G.below {a b c : World} {row : Option Nat} (h : a.grownBy b row) (k : Below b.heap.size b c) : a.grownBy c row := G.trans h (below_grown k row)
theorem G.set {a b : World} {pl : Nat} (h : a.grownBy b (some pl)) (o : Nat) (v : Value) : a.grownBy (b.setCell ⟨pl, o, none⟩ v) (some pl) :=
  G.trans h ⟨rfl, rfl, rfl, by simp [World.setCell], fun k _ hk => Below.heap_setCell _ _ _ k (fun e => hk (by rw [e]))⟩
/-- A block that came later may turn. -/
theorem G.setNew {a b : World} {row : Option Nat} (h : a.grownBy b row) {p : Addr} (hp : a.heap.size ≤ p.block) (v : Value) : a.grownBy (b.setCell p v) row :=
  ⟨h.os, h.tape, h.output, by simpa [World.setCell] using h.size, fun k hk hn => (Below.heap_setCell _ _ _ k (by omega)).trans (h.block k hk hn)⟩
theorem G.putNew {a b : World} {row : Option Nat} (h : a.grownBy b row) {l : Nat} (hl : a.heap.size ≤ l) (hb : l < b.heap.size) (o : Obj) : a.grownBy (b.putObj l o) row :=
  ⟨h.os, h.tape, h.output, Nat.le_trans h.size (grownBy_putObj' b l o).size, fun k hk hn => (World.putObj_heap_other (by omega)).trans (h.block k hk hn)⟩

/-- A step that turns a block which came later. -/
theorem G.andNew {a b c : World} {row row' : Option Nat} (h : a.grownBy b row) (k : b.grownBy c row') (hr : ∀ j, row' = some j → a.heap.size ≤ j) : a.grownBy c row :=
  ⟨k.os.trans h.os, k.tape.trans h.tape, k.output.trans h.output, Nat.le_trans h.size k.size, fun i hi hn => (k.block i (Nat.lt_of_lt_of_le hi h.size) (fun e => by have := hr i e.symm; omega)).trans (h.block i hi hn)⟩
theorem IsPool.own {A B : World} {pp pl n : Nat} {L : List Pl} {row : Option Nat} (h : IsPool A pp pl L) (hg : A.grownBy B row) (hr : ∀ r, row = some r → n ≤ r ∧ ∃ o : Obj, A.heap[r]? = some o ∧ o.isCells = false) (h1 : pl < n) (h2 : pp < n) : IsPool B pp pl L :=
  h.grown hg (fun e => by have := (hr pl e.symm).1; omega) (fun e => by have := (hr pp e.symm).1; omega)
theorem box_own {A B : World} {b : Nat} {t : TypeId} {v : Value} {n : Nat} {row : Option Nat} (h : Boxed A b t v) (hg : A.grownBy B row) (hr : ∀ r, row = some r → n ≤ r ∧ ∃ o : Obj, A.heap[r]? = some o ∧ o.isCells = false) : Boxed B b t v :=
  h.kept hg (fun e => by obtain ⟨_, o, ho, hc⟩ := hr b e.symm; rw [show A.heap[b]? = _ from h] at ho; cases ho; cases hc)
theorem box_far {W : World} {b : Nat} {t : TypeId} {v : Value} (h : Boxed W b t v) {a : Addr} (hne : b ≠ a.block) (u : Value) : Boxed (W.setCell a u) b t v := (Below.heap_setCell _ _ _ _ hne).trans h
theorem IsPool.far {W : World} {pp pl : Nat} {L : List Pl} (h : IsPool W pp pl L) {a : Addr} (h1 : pl ≠ a.block) (h2 : pp ≠ a.block) (u : Value) : IsPool (W.setCell a u) pp pl L :=
  h.grown (row := some a.block) ⟨rfl, rfl, rfl, by simp [World.setCell], fun k _ hk => Below.heap_setCell _ _ _ k (fun e => hk (by rw [e]))⟩ (fun e => h1 (by injection e)) (fun e => h2 (by injection e))

theorem ok_default : (default : Pl).ok := ⟨Int.le_refl _, by decide, fun _ => by decide⟩
theorem IsPool.okAt {W : World} {pp pl : Nat} {L : List Pl} (h : IsPool W pp pl L) (i : Nat) : (L[i]?.getD default).ok := by
  by_cases hi : i < L.length
  · exact h.ok i hi
  · rw [List.getElem?_eq_none (by omega)]; exact ok_default

theorem addr_ne {b o o' : Nat} (h : o ≠ o') : (⟨b, o, none⟩ : Addr) ≠ ⟨b, o', none⟩ := fun e => h (by injection e)
theorem IsPool.set3 {W : World} {pp pl : Nat} {L : List Pl} (h : IsPool W pp pl L) {k : Nat} (hk : k < L.length) (p : Pl) (hp : p.ok) :
    IsPool (((W.setCell ⟨pl, k * 3, none⟩ (.int .i64 p.age)).setCell ⟨pl, k * 3 + 1, none⟩ (.bool p.has)).setCell ⟨pl, k * 3 + 2, none⟩ (.int .i64 p.x)) pp pl (L.set k p) := by
  have oth : ∀ q : Addr, q ≠ ⟨pl, k * 3, none⟩ → q ≠ ⟨pl, k * 3 + 1, none⟩ → q ≠ ⟨pl, k * 3 + 2, none⟩ → (((W.setCell ⟨pl, k * 3, none⟩ (.int .i64 p.age)).setCell ⟨pl, k * 3 + 1, none⟩ (.bool p.has)).setCell ⟨pl, k * 3 + 2, none⟩ (.int .i64 p.x)).cell? q = W.cell? q := fun q h1 h2 h3 => by
    rw [World.cell?_setCell_other _ _ _ _ (Ne.symm h3), World.cell?_setCell_other _ _ _ _ (Ne.symm h2), World.cell?_setCell_other _ _ _ _ (Ne.symm h1)]
  have get : ∀ i, i ≠ k → (L.set k p)[i]?.getD default = L[i]?.getD default := fun i hi => by rw [List.getElem?_set_ne (Ne.symm hi)]
  have getk : (L.set k p)[k]?.getD default = p := by rw [List.getElem?_set_self hk]; rfl
  have s0 : ((W.setCell ⟨pl, k * 3, none⟩ (.int .i64 p.age)).cell? ⟨pl, k * 3 + 1, none⟩) = some (.bool (L[k]?.getD default).has) := by rw [World.cell?_setCell_other _ _ _ _ (by simp)]; exact h.has k hk
  have s1 : (((W.setCell ⟨pl, k * 3, none⟩ (.int .i64 p.age)).setCell ⟨pl, k * 3 + 1, none⟩ (.bool p.has)).cell? ⟨pl, k * 3 + 2, none⟩) = some (.int .i64 (L[k]?.getD default).x) := by rw [World.cell?_setCell_other _ _ _ _ (by simp), World.cell?_setCell_other _ _ _ _ (by simp)]; exact h.x k hk
  refine ⟨?_, h.ne, ?_, ?_, ?_, ?_, ?_, ?_, ?_⟩
  · obtain ⟨c, h1, h2, h3⟩ := h.slice
    exact ⟨c, by simpa using h1, h2, by rw [oth _ (by simp [h.ne.symm]) (by simp) (by simp)]; simpa using h3⟩
  · simpa [World.setCell] using h.lt
  · simpa using h.room
  · intro i hi
    by_cases e : i = k
    · subst e
      rw [getk, World.cell?_setCell_other _ _ _ _ (by simp), World.cell?_setCell_other _ _ _ _ (by simp), World.cell?_setCell_same' _ _ _ (by rw [h.age i hk]; rfl)]
    · rw [get i e, oth _ (addr_ne (by omega)) (addr_ne (by omega)) (addr_ne (by omega))]; exact h.age i (by simpa using hi)
  · intro i hi
    by_cases e : i = k
    · subst e
      rw [getk, World.cell?_setCell_other _ _ _ _ (by simp), World.cell?_setCell_same' _ _ _ (by rw [s0]; rfl)]
    · rw [get i e, oth _ (addr_ne (by omega)) (addr_ne (by omega)) (addr_ne (by omega))]; exact h.has i (by simpa using hi)
  · intro i hi
    by_cases e : i = k
    · subst e
      rw [getk, World.cell?_setCell_same' _ _ _ (by rw [s1]; rfl)]
    · rw [get i e, oth _ (addr_ne (by omega)) (addr_ne (by omega)) (addr_ne (by omega))]; exact h.x i (by simpa using hi)
  · intro o ho
    rw [World.frozen?_setCell, World.frozen?_setCell, World.frozen?_setCell]; exact h.free o (by simpa using ho)
  · intro i hi
    by_cases e : i = k
    · subst e; rw [getk]; exact hp
    · rw [get i e]; exact h.ok i (by simpa using hi)

theorem handle_any (i age : Int) (w : World) (h0 : 0 ≤ i) (h1 : i < 1024) (h2 : 0 ≤ age) (h3 : age ≤ 1073741825) :
    Calls Try.prog 27 #[.int .i64 i, .int .i64 age] w fun e w' => e = .returned (.int .i64 (age * 65536 + i + 1)) ∧ w' = w := by
  go_enter Try.func27, Try.ntmps27
  go_wp2
  go_ret
  exact ⟨rfl, rfl⟩

theorem fill_any (b o : Nat) (age x : Int) (w : World) (u0 u1 u2 : Value) (c0 : w.cell? ⟨b, o, none⟩ = some u0) (c1 : w.cell? ⟨b, o + 1, none⟩ = some u1) (c2 : w.cell? ⟨b, o + 2, none⟩ = some u2)
    (f0 : w.frozen? ⟨b, o, none⟩ = false) (f1 : w.frozen? ⟨b, o + 1, none⟩ = false) (f2 : w.frozen? ⟨b, o + 2, none⟩ = false) :
    Calls Try.prog 22 #[.pointer (some ⟨b, o, none⟩), .int .i64 age, .int .i64 x] w fun e w' => e = .returned (.tuple #[]) ∧ w' = ((w.setCell ⟨b, o, none⟩ (.int .i64 age)).setCell ⟨b, o + 1, none⟩ (.bool true)).setCell ⟨b, o + 2, none⟩ (.int .i64 x) := by
  go_enter Try.func22, Try.ntmps22
  go_wp2
  go_end0
  exact ⟨rfl, rfl⟩

set_option maxHeartbeats 1000000 in
theorem each_in (p : Option Addr) (w : World) : Calls Try.prog 26 #[.pointer p] w fun e w' => e = .returned (.func (.func 30) #[] #[.pointer (some ⟨w.heap.size, 0, none⟩)]) ∧ w' = w.alloc (.cells #[.pointer p] 24) := by
  go_enter Try.func26, Try.ntmps26
  go_wp2
  go_ret
  exact ⟨rfl, rfl⟩
theorem all_in (p : Option Addr) (w : World) : Calls Try.prog 29 #[.pointer p] w fun e w' => e = .returned (.func (.func 31) #[] #[.pointer (some ⟨w.heap.size, 0, none⟩)]) ∧ w' = w.alloc (.cells #[.pointer p] 24) := by
  go_enter Try.func29, Try.ntmps29
  go_wp2
  go_ret
  exact ⟨rfl, rfl⟩

/-- What a round keeps: the cells that are there, of the blocks of S. -/
def Keep (S : Nat → Prop) (W W' : World) : Prop := ∀ (q : Addr) (v : Value), S q.block → W.cell? q = some v → W'.cell? q = some v
theorem Keep.refl (S : Nat → Prop) (W : World) : Keep S W W := fun _ _ _ h => h
theorem Keep.trans {S : Nat → Prop} {A B C : World} (h : Keep S A B) (k : Keep S B C) : Keep S A C := fun q v hq hc => k q v hq (h q v hq hc)
theorem Keep.mono {S S' : Nat → Prop} {A B : World} (h : Keep S A B) (hS : ∀ b, S' b → S b) : Keep S' A B := fun q v hq hc => h q v (hS _ hq) hc
theorem keep_b {S : Nat → Prop} {W : World} {l : Nat} {o : Obj} (o' : Obj) (h : W.heap[l]? = some o) (hc : o.isCells = false) : Keep S W (W.putObj l o') := fun q v hq hv => by
  have hne : q.block ≠ l := fun e => by
    rw [← e] at h
    unfold World.cell? at hv
    rw [h] at hv
    cases o <;> simp_all [Obj.isCells]
  exact (World.cell?_of_block (w := W) (World.putObj_heap_other hne)).trans hv
theorem keep_grown {S : Nat → Prop} {A B : World} {row : Option Nat} (hg : A.grownBy B row) (hr : ∀ r, row = some r → ¬ S r) : Keep S A B := fun q v hq hv =>
  hg.cell hv (fun e => hr _ e.symm hq)

/-- The first k places of so many. -/
def ups (len k : Nat) : List (Fin len) := (List.finRange len).take k
theorem ups_zero (len : Nat) : ups len 0 = [] := rfl
theorem ups_succ {len k : Nat} (h : k < len) : ups len (k + 1) = ups len k ++ [⟨k, h⟩] := by
  unfold ups
  rw [List.take_succ_eq_append_getElem (by simpa using h)]
  simp
theorem ups_length {len k : Nat} (h : k ≤ len) : (ups len k).length = k := by simp [ups, h]
theorem mem_ups {len k : Nat} (j : Fin len) (h : k ≤ len) : j ∈ ups len k ↔ j.val < k := by
  unfold ups
  constructor
  · intro hj
    obtain ⟨i, hi, e⟩ := List.mem_iff_getElem.1 hj
    simp only [List.length_take, List.length_finRange] at hi
    simp at e
    rw [← e]; simp; omega
  · intro hj
    apply List.mem_iff_getElem.2
    exact ⟨j.val, by simp; omega, by simp⟩

/-- A place's number and address, as each tells them. -/
def enc2 (pl len : Nat) (i : Fin len) : Array Value := #[.int .i64 (i.val : Int), .pointer (some ⟨pl, i.val * 3, none⟩)]

set_option maxRecDepth 100000 in
set_option maxHeartbeats 2000000 in
theorem each1_in (n : Nat) (hn : 1 ≤ n) (l Bs pp pl len cap : Nat) (hlen : len ≤ 1024) (J Jx : List (Fin len) → World → Prop)
    (hY : ∀ pre x W, J pre W → pre.length < len → YieldAt Fence.wide (n - 1) Try.prog l (enc2 pl len x) W fun e W' =>
      (e = .returned (.bool true) ∧ J (pre ++ [x]) W' ∧ Keep (fun b => b = Bs ∨ b = pp) W W') ∨ (e = .returned (.bool false) ∧ Jx (pre ++ [x]) W'))
    (W : World) (hBs : W.cell? ⟨Bs, 0, none⟩ = some (.pointer (some ⟨pp, 0, none⟩))) (hc : W.cell? ⟨pp, 0, none⟩ = some (.slice (some ⟨pl, 0, none⟩) len cap)) (h0 : J [] W) :
    CallsIn Fence.wide n Try.prog 30 #[.func (.yield l) #[] #[], .pointer (some ⟨Bs, 0, none⟩)] W fun e W' => (∃ v, e = .returned v) ∧
      ((∃ ys, ys = ups len len ∧ J ys W') ∨ (∃ pre, (∃ k, k ≤ len ∧ pre = ups len k) ∧ Jx pre W')) := by
  refine callsIn_of_wp Try.func30 rfl trivial ?_ rfl
  simp only [Try.ntmps30, List.size_toArray, List.length_cons, List.length_nil, Nat.reduceAdd, Nat.reduceSub, Array.replicate_succ, Array.replicate_zero, List.push_toArray, List.append_toArray, List.nil_append, List.cons_append]
  gi_wp2
  gi_loopw [9] (fun i wr => ∃ k : Nat, k ≤ len ∧ i = .int .i64 k ∧ J (ups len k) wr ∧ Keep (fun b => b = Bs ∨ b = pp) W wr)
    (fun i _ => len - (intOf i).toNat)
  case atStart => exact ⟨0, Nat.zero_le _, rfl, h0, Keep.refl _ _⟩
  case round =>
    obtain ⟨k, hk, rfl, hJs, hnx⟩ := hrel
    have hb1 : wr.cell? ⟨Bs, 0, none⟩ = some (.pointer (some ⟨pp, 0, none⟩)) := hnx ⟨Bs, 0, none⟩ _ (Or.inl rfl) hBs
    have hb2 : wr.cell? ⟨pp, 0, none⟩ = some (.slice (some ⟨pl, 0, none⟩) len cap) := hnx ⟨pp, 0, none⟩ _ (Or.inr rfl) hc
    by_cases hlt : k < len
    · obtain ⟨fn, tmps, assign, body, hy, hR⟩ := hY _ ⟨k, hlt⟩ wr hJs (by rw [ups_length hk]; exact hlt)
      unfold enc2 at hy
      gi_wp2
      refine hR.mono ?_
      rintro e W3 (⟨rfl, hJ3, hk3⟩ | ⟨rfl, hJx3⟩)
      · gi_wp2
        go_roundw
        case rel => exact ⟨k + 1, by omega, by simp, by rw [ups_succ hlt]; exact hJ3, hnx.trans hk3⟩
        case measure => simp [intOf]; omega
      · gi_wp2
        refine bodyPost_ret (results_none rfl _ _ _) rfl ?_
        exact ⟨⟨_, rfl⟩, .inr ⟨_, ⟨k + 1, by omega, (ups_succ hlt).symm⟩, hJx3⟩⟩
    · obtain rfl : k = len := by omega
      gi_wp2
      go_end0
      exact ⟨⟨_, rfl⟩, .inl ⟨_, rfl, hJs⟩⟩

theorem each_stops (n : Nat) (hn : 1 ≤ n) (Bs pp pl len : Nat) (hlen : len ≤ 1024) (w : World) (hBs : w.cell? ⟨Bs, 0, none⟩ = some (.pointer (some ⟨pp, 0, none⟩))) (hc' : ∃ cap : Nat, len ≤ cap ∧ cap ≤ 9223372036854775807 ∧ w.cell? ⟨pp, 0, none⟩ = some (.slice (some ⟨pl, 0, none⟩) len cap)) :
    SeqStopsK Fence.wide n Try.prog 30 #[.pointer (some ⟨Bs, 0, none⟩)] (enc2 pl len) (Keep (fun b => b = Bs ∨ b = pp)) (fun ys => ys = ups len len) (fun pre => ∃ k, k ≤ len ∧ pre = ups len k) len w := fun l J Jx W hW _ _ hY h0 => by
  obtain ⟨cap, _, _, hc⟩ := hc'
  exact each1_in n hn l Bs pp pl len cap hlen J Jx hY W ((hW.cell (World.block_lt_of_cell? _ _ hBs)).trans hBs) ((hW.cell (World.block_lt_of_cell? _ _ hc)).trans hc) h0
end Go.Proofs.Ytoocenbmggfodaa
