/- Package pose's each: what goes through points, each as a function has it. -/
import Derived.Test.YthcdpngkoejgpaaRangeN
import Derived.Test.YthcdpngkoejgpaaPsD
namespace Go.Proofs.Ythcdpngkoejgpaa
open Go.RowKit Go.Shelf
attribute [local go_sem] Oper.semAt_some
set_option linter.unusedVariables false

set_option maxHeartbeats 1000000 in
theorem each_in_pt (o : Option Addr) (n c gf : Nat) (bs cs : Array Value) (w : World) : Calls Try.prog 46 #[.slice o n c, .func (.func gf) bs cs] w fun e w' => e = .returned (.func (.func 78) #[] #[.pointer (some ⟨w.heap.size, 0, none⟩), .pointer (some ⟨w.heap.size + 1, 0, none⟩)]) ∧ w' = (w.alloc (.cells #[.slice o n c] 22)).alloc (.cells #[.func (.func gf) bs cs] 56) := by
  go_enter Try.func46, Try.ntmps46
  go_wp2
  go_ret
  exact ⟨rfl, rfl⟩

set_option maxRecDepth 100000 in
set_option maxHeartbeats 4000000 in
theorem each_tells_pt (n : Nat) (Bp Bf : Nat) (Ls : List Pt) (o : Option Addr) (cap gf : Nat) (bs cs : Array Value) (enc : Nat → Value) (row : Option Nat) (S : Nat → Prop) (St : Nat → World → Prop) (w : World)
    (eg : ∀ args w, (callFunc gf args).run Try.prog w = .ok (.enter gf args) w)
    (hv : Lies w (.slice o Ls.length cap) Ls) (cp : w.cell? ⟨Bp, 0, none⟩ = some (.slice o Ls.length cap)) (cf : w.cell? ⟨Bf, 0, none⟩ = some (.func (.func gf) bs cs))
    (hSv : ∀ q, o = some q → Ls ≠ [] → S q.block ∧ some q.block ≠ row) (hSf : S Bf ∧ some Bf ≠ row) (hS : ∀ b, S b → b < w.heap.size)
    (hst0 : ∀ W, Below w.heap.size w W → St 0 W) (hstS : ∀ k A B, St k A → KeepO S A B → St k B)
    (hb : ∀ k V, k < Ls.length → St k V → Calls Try.prog gf (bs.push (pt Ls k).v ++ cs) V fun e V' => e = .returned (enc k) ∧ V.grownBy V' row ∧ St (k + 1) V') :
    TellsN n Try.prog 78 #[.pointer (some ⟨Bp, 0, none⟩), .pointer (some ⟨Bf, 0, none⟩)] (fun k => #[enc k]) row S St Ls.length w := by
  intro l J Jx W hB hJ hJx hJr hY h0
  have cp' := c_after hB cp
  have cf' := c_after hB cf
  have hv' := hv.below hB
  obtain ⟨o', cap', ee, hlc, hcm, hcell⟩ := hv'.form
  simp only [Value.slice.injEq, true_and] at ee
  obtain ⟨rfl, rfl⟩ := ee
  have HC : Hid _ := hcell
  have st0 := hst0 W hB
  clear hv hv' hcell cp cf hst0
  refine callsIn_of_wp Try.func78 rfl trivial ?_ rfl
  simp only [Try.ntmps78, List.size_toArray, List.length_cons, List.length_nil, Nat.reduceAdd, Nat.reduceSub, Array.replicate_succ, Array.replicate_zero, List.push_toArray, List.append_toArray, List.nil_append, List.cons_append]
  gi_wp2
  gi_loopw [8] (fun i wr => ∃ k : Nat, k ≤ Ls.length ∧ i = .int .i64 k ∧ Hid (J k wr) ∧ Hid (St k wr) ∧ Hid (KeepO (fun b => S b ∧ some b ≠ row) W wr))
    (fun i _ => Ls.length - (intOf i).toNat)
  case atStart => exact ⟨0, Nat.zero_le _, rfl, h0, st0, KeepO.refl _ _⟩
  case round =>
    obtain ⟨k, hk, rfl, hJk, hSk, hKk⟩ := hrel
    by_cases hlt : k < Ls.length
    · obtain ⟨g, off, rfl, x0, x1, x2⟩ := HC.out k hlt
      have hSg := hSv _ rfl (fun e => by rw [e] at hlt; simp at hlt)
      have y0 := hKk.out.cell (q := ⟨g, off + k * 3, none⟩) hSg x0
      have y1 := hKk.out.cell (q := ⟨g, off + k * 3 + 1, none⟩) hSg x1
      have y2 := hKk.out.cell (q := ⟨g, off + k * 3 + 2, none⟩) hSg x2
      have cf2 := hKk.out.cell (q := ⟨Bf, 0, none⟩) hSf cf'
      have HA : Hid _ := KeepO.alloc S wr (.cells #[.int .i64 (pt Ls k).x, .int .i64 (pt Ls k).y, .int .i64 (pt Ls k).z] 26)
      have hJ1 : Hid (J k (wr.alloc (.cells #[.int .i64 (pt Ls k).x, .int .i64 (pt Ls k).y, .int .i64 (pt Ls k).z] 26))) := hJ.alloc _ hJk.out
      have hbk : Hid (Calls Try.prog gf (bs.push (.agg #[.int .i64 (pt Ls k).x, .int .i64 (pt Ls k).y, .int .i64 (pt Ls k).z]) ++ cs) (wr.alloc (.cells #[.int .i64 (pt Ls k).x, .int .i64 (pt Ls k).y, .int .i64 (pt Ls k).z] 26)) fun e V' => e = .returned (enc k) ∧ (wr.alloc (.cells #[.int .i64 (pt Ls k).x, .int .i64 (pt Ls k).y, .int .i64 (pt Ls k).z] 26)).grownBy V' row ∧ St (k + 1) V') := hb k _ hlt (hstS k _ _ hSk.out HA.out)
      have cf3 := c_after (n_after wr (.cells #[.int .i64 (pt Ls k).x, .int .i64 (pt Ls k).y, .int .i64 (pt Ls k).z] 26)) cf2
      clear x0 x1 x2
      generalize (pt Ls k).x = px at *
      generalize (pt Ls k).y = py at *
      generalize (pt Ls k).z = pz at *
      gi_wp2
      refine ⟨trivial, fun h => (by cases h), (callsIn_wide.2 hbk.out).mono ?_⟩
      rintro e V1 ⟨rfl, g1, s1⟩
      have hJ2 := hJr k _ _ hJ1.out g1
      obtain ⟨fn, tmps, assign, body, hy, hR⟩ := hY k V1 hlt hJ2
      have k1 : Hid (KeepO (fun b => S b ∧ some b ≠ row) W V1) := (hKk.out.trans (HA.out.mono (fun b h => h.1))).trans (KeepO.grown g1 (fun b h => h.2))
      clear y0 y1 y2 cf2 cf3 hbk HA hJ1
      gi_wp2
      refine ⟨fun h => (by cases h), hR.mono ?_⟩
      rintro e W3 (⟨rfl, hJ3, hk3, _⟩ | ⟨rfl, hJx3, _⟩)
      · gi_wp2
        go_roundw
        case rel => exact ⟨k + 1, by omega, by simp, hJ3, hstS _ _ _ s1 hk3, k1.out.trans (hk3.mono (fun b h => h.1))⟩
        case measure => simp [intOf]; omega
      · gi_wp2
        refine bodyPost_ret (results_none rfl _ _ _) rfl ?_
        exact ⟨⟨_, rfl⟩, .inr ⟨k, hlt, hJx3⟩⟩
    · obtain rfl : k = Ls.length := by omega
      gi_wp2
      go_end0
      exact ⟨⟨_, rfl⟩, .inl ⟨hJk.out, hSk.out⟩⟩
end Go.Proofs.Ythcdpngkoejgpaa
