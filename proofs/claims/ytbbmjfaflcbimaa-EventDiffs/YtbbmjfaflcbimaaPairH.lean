/- Going through a set: the iterator, a list of all, what is beyond another set. -/
import Derived.Test.YtbbmjfaflcbimaaPairG
namespace Go.Proofs.Ytbbmjfaflcbimaa
open Go.RowKit Go.Shelf
attribute [local go_sem] Oper.semAt_some
set_option linter.unusedVariables false

set_option maxHeartbeats 1000000 in
theorem all_in (p : Option Addr) (w : World) : Calls Try.prog 40 #[.pointer p] w fun e w' => e = .returned (.func (.func 46) #[] #[.pointer (some ⟨w.heap.size, 0, none⟩)]) ∧ w' = w.alloc (.cells #[.pointer p] 51) := by
  go_enter Try.func40, Try.ntmps40
  go_wp2
  go_ret
  exact ⟨rfl, rfl⟩

def encP (L : List Pr) (i : Fin L.length) : Array Value := #[.agg #[.int .i64 (pt L i.val).a, .int .i64 (pt L i.val).b]]

set_option maxRecDepth 100000 in
set_option maxHeartbeats 4000000 in
theorem all_tells (n : Nat) (hn : 1 ≤ n) (Bs sp base : Nat) (v : Value) (room : Nat) (L : List Pr) (w : World) (hs : IsSet w sp base v room L) (hBs : w.cell? ⟨Bs, 0, none⟩ = some (.pointer (some ⟨sp, 0, none⟩))) :
    Tells n Try.prog 46 #[.pointer (some ⟨Bs, 0, none⟩)] (encP L) (Keep (fun b => some b = v.ownBlock)) (fun ys => ys = ups L.length L.length) (fun pre => ∃ k, k ≤ L.length ∧ pre = ups L.length k) L.length w := by
  intro l J Jx W hb hJ hJx hY h0
  have hsW := hs.below hb
  have cB : W.cell? ⟨Bs, 0, none⟩ = some (.pointer (some ⟨sp, 0, none⟩)) := (hb.cell (World.block_lt_of_cell? _ _ hBs)).trans hBs
  obtain ⟨o, cap, hv⟩ := set_len hs
  have c1 := hsW.c1
  rw [hv] at c1
  have hln := hs.len
  have hrm := hs.rm
  have HS : Hid _ := hsW
  have HV : Hid _ := hv
  clear hs hsW hBs hv
  refine callsIn_of_wp Try.func46 rfl trivial ?_ rfl
  simp only [Try.ntmps46, List.size_toArray, List.length_cons, List.length_nil, Nat.reduceAdd, Nat.reduceSub, Array.replicate_succ, Array.replicate_zero, List.push_toArray, List.append_toArray, List.nil_append, List.cons_append]
  gi_wp2
  gi_loopw [10] (fun i wr => ∃ k : Nat, k ≤ L.length ∧ i = .int .i64 k ∧ J (ups L.length k) wr ∧ Keep (fun b => some b = v.ownBlock) W wr)
    (fun i _ => L.length - (intOf i).toNat)
  case atStart => exact ⟨0, Nat.zero_le _, rfl, h0, Keep.refl _ _⟩
  case round =>
    obtain ⟨k, hk, rfl, hJs, hnx⟩ := hrel
    by_cases hlt : k < L.length
    · obtain ⟨g, cap', hv', hlc, hcm, hcell⟩ := set_row HS.out (k := k) hlt
      have hvg : v.ownBlock = some g := by rw [hv']; rfl
      rw [HV.out] at hv'
      simp only [Value.slice.injEq, true_and] at hv'
      obtain ⟨rfl, rfl⟩ := hv'
      have g0 := hnx ⟨g, k * 2, none⟩ _ hvg.symm (hcell k hlt).1
      have g1 := hnx ⟨g, k * 2 + 1, none⟩ _ hvg.symm (hcell k hlt).2
      have hJ1 : J (ups L.length k) (wr.alloc (.cells #[.int .i64 (pt L k).a, .int .i64 (pt L k).b] 60)) := hJ.alloc _ hJs
      have hk1 : Keep (fun b => some b = v.ownBlock) wr (wr.alloc (.cells #[.int .i64 (pt L k).a, .int .i64 (pt L k).b] 60)) := keep_grown (World.grownBy_alloc wr _ none) (fun r e => by cases e)
      obtain ⟨fn, tmps, assign, body, hy, hR⟩ := hY _ ⟨k, hlt⟩ _ hJ1 (by rw [ups_length hk]; exact hlt)
      unfold encP at hy
      clear hcell
      generalize (pt L k).a = ma at *
      generalize (pt L k).b = mb at *
      gi_wp2
      refine hR.mono ?_
      rintro e W3 (⟨rfl, hJ3, hk3, _⟩ | ⟨rfl, hJx3, _⟩)
      · gi_wp2
        go_roundw
        case rel => exact ⟨k + 1, by omega, by simp, by rw [ups_succ hlt]; exact hJ3, (hnx.trans hk1).trans hk3⟩
        case measure => simp [intOf]; omega
      · gi_wp2
        refine bodyPost_ret (results_none rfl _ _ _) rfl ?_
        exact ⟨⟨_, rfl⟩, .inr ⟨_, ⟨k + 1, by omega, (ups_succ hlt).symm⟩, hJx3⟩⟩
    · obtain rfl : k = L.length := by omega
      gi_wp2
      go_end0
      exact ⟨⟨_, rfl⟩, .inl ⟨_, rfl, hJs⟩⟩
end Go.Proofs.Ytbbmjfaflcbimaa
