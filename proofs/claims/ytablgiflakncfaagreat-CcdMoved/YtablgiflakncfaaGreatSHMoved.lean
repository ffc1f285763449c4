/- Where the world's middle is bears upon no ball: for all raw shots, moved by whole grains. -/
import Derived.Test.YtablgiflakncfaaGreatBBW12
import Derived.Test.YtablgiflakncfaaGreatBBW11
import Derived.Test.YtablgiflakncfaaGreatBBW0
import Derived.Test.YtablgiflakncfaaGreatProg
import Derived.WalkKit
import Derived.Orders
import Derived.Below
import Derived.Laws.Rows
import Derived.Test.YtablgiflakncfaaGreatBBW10
import Derived.Test.YtablgiflakncfaaGreatBBW5
import Derived.Test.YtablgiflakncfaaGreatEHMoved0
import Derived.Test.YtablgiflakncfaaGreatBBW4
import Derived.Test.YtablgiflakncfaaGreatBBW3
import Derived.Test.YtablgiflakncfaaGreatBBW2
import Derived.Test.YtablgiflakncfaaGreatBBW1
import Derived.RangeFuncNested
import Derived.RangeFuncBound
import Derived.RangeFuncCalls
import Derived.RangeFuncLeaves
import Derived.RangeFuncBox
import Derived.Shelf.Abstract
import Derived.OwnWalkIn
import Derived.TacticsInMore
import Derived.LoopNIn
import Derived.LoopIn
import Derived.LoopTactic
import Derived.ProofKit
import Derived.Handy
import Derived.Laws.MakeOwn
import Derived.Laws.OwnMore
import Derived.Maps.AppendAt
import Derived.Deep.RegionWith
import Derived.Deep.QuietTactic
import Derived.BigQuiet
import Derived.Deep.CutBlock
import Derived.Deep.CutRange
import Derived.Deep.LoopGhost
import Derived.Lib.SmallJoins
import Derived.RowKit
import Derived.Scope
import Derived.OrdersIn
import Derived.Sort.CutIn
import Derived.Test.YtablgiflakncfaaGreatBBW9
import Derived.Test.YtablgiflakncfaaGreatBBW6
import Derived.OneCell
import Derived.WalkMore
import Derived.Lib.BufferMore
import Derived.Test.YtablgiflakncfaaGreatBBW8
import Derived.Test.YtablgiflakncfaaGreatBBW7
import Derived.Laws.MathBits
import Derived.Laws.Externs
import Derived.Laws.BitsAllLaws
import Derived.WalkLawsBesides
import Derived.Lib.AppendZeros
import Derived.Deep.MidRow
import Derived.Test.YtablgiflakncfaaGreatBBW25
import Derived.Test.YtablgiflakncfaaGreatBBW23
import Derived.Test.YtablgiflakncfaaGreatBBW22
import Derived.Test.YtablgiflakncfaaGreatBBW17
import Derived.Test.YtablgiflakncfaaGreatBBW14
import Derived.Test.YtablgiflakncfaaGreatBBW13
import Derived.Test.YtablgiflakncfaaGreatBBW16
import Derived.Test.YtablgiflakncfaaGreatBBW15
import Derived.Deep.RegionHeld3
import Derived.Test.YtablgiflakncfaaGreatBBW19
import Derived.Test.YtablgiflakncfaaGreatBBW18
import Derived.Test.YtablgiflakncfaaGreatBBW21
import Derived.Test.YtablgiflakncfaaGreatBBW20
import Derived.Deep.Onto
import Derived.Test.YtablgiflakncfaaGreatBBW24
import Derived.OpenShut
import Derived.Deep.Slices
import Derived.Test.YtablgiflakncfaaGreatRows
namespace Go.Proofs.YtablgiflakncfaaGreat
namespace ccdMoved
open Go.ChangeShapes Go.WideShapes Go.ChangeAt Go.RowKit Go.Shelf
set_option linter.unusedVariables false

theorem own : ownKnob Tryz.prog.godebug = none := by kernel_rfl
theorem laidOut : laidOutB Tryz.prog = true := by kernel_rfl

set_option maxHeartbeats 32000000 in
set_option maxRecDepth 100000 in
theorem walk (fv yv : V3) (rr : Int) (oa : Option Addr) (RR : List Rw) (ca : Nat) (ob : Option Addr) (SS : List Pw) (cb : Nat) (tx1 ty1 tz1 : Int) (w0 : World) (hR : LiesR w0 (.slice oa RR.length ca) RR) (oR : ∀ q ∈ RR, q.ok) (hS : LiesP w0 (.slice ob SS.length cb) SS) (oS : ∀ q ∈ SS, q.ok) (bds : (I64 fv.x ∧ I64 fv.y ∧ I64 fv.z) ∧ (I64 yv.x ∧ I64 yv.y ∧ I64 yv.z) ∧ I64 rr) (bx1 : -9223372036854775808 ≤ tx1 ∧ tx1 ≤ 9223372036854775807) (by1 : -9223372036854775808 ≤ ty1 ∧ ty1 ≤ 9223372036854775807) (bz1 : -9223372036854775808 ≤ tz1 ∧ tz1 ≤ 9223372036854775807) :
    Calls Tryz.prog 7 #[.agg #[.int .i64 fv.x, .int .i64 fv.y, .int .i64 fv.z, .int .i64 yv.x, .int .i64 yv.y, .int .i64 yv.z, .int .i64 rr, .slice oa RR.length ca, .slice ob SS.length cb], .agg #[.int .i64 tx1, .int .i64 ty1, .int .i64 tz1]] w0 fun e w' => e = .returned (.bool true) ∧ Below w0.heap.size w0 w' := by
  have HPx : Hid _ := fun w' => hpart_any tx1 1048576 w' bx1 (by decide)
  have hdx := partY_in tx1 (m := 1048576) (by decide)
  generalize partY tx1 1048576 = dx at *
  have HPy : Hid _ := fun w' => hpart_any ty1 1048576 w' by1 (by decide)
  have hdy := partY_in ty1 (m := 1048576) (by decide)
  generalize partY ty1 1048576 = dy at *
  have HPz : Hid _ := fun w' => hpart_any tz1 1048576 w' bz1 (by decide)
  have hdz := partY_in tz1 (m := 1048576) (by decide)
  generalize partY tz1 1048576 = dz at *
  have HDB : Hid (Pt.inB ⟨dx, dy, dz⟩ 1048576 = true) := by show _ = _; rw [Pt.inB_iff]; exact ⟨hdx, hdy, hdz⟩
  clear hdx hdy hdz bx1 by1 bz1
  obtain ⟨i0, hii, hiz, hisz, hib⟩ := core_parts
  have HI : Hid _ := And.intro hii (And.intro hiz (And.intro hisz hib))
  obtain ⟨i0p, hiip, hizp, hiszp, hibp⟩ := info_parts point_info
  have HIP : Hid _ := And.intro hiip (And.intro hizp (And.intro hiszp hibp))
  clear hii hiz hisz hib hiip hizp hiszp hibp
  have AWK : Hid _ := fun W => hawake_any W
  have MD : Hid _ := fun w' (h : Below w0.heap.size w0 w') => made_any fv yv rr RR SS oa ca ob cb w' (hR.below h) oR (hS.below h) oS bds
  clear hR oR hS oS bds
  obtain ⟨A1, hA1⟩ : ∃ V, V = (w0.alloc (.cells #[.int .i64 fv.x, .int .i64 fv.y, .int .i64 fv.z, .int .i64 yv.x, .int .i64 yv.y, .int .i64 yv.z, .int .i64 rr, .slice oa RR.length ca, .slice ob SS.length cb] 41)).alloc (.cells #[.int .i64 tx1, .int .i64 ty1, .int .i64 tz1] 45) := ⟨_, rfl⟩
  obtain ⟨sb, hsb⟩ : ∃ b, b = w0.heap.size := ⟨_, rfl⟩
  obtain ⟨yb, hyb⟩ : ∃ b, b = w0.heap.size + 1 := ⟨_, rfl⟩
  have ky := n_after (w0.alloc (.cells #[.int .i64 fv.x, .int .i64 fv.y, .int .i64 fv.z, .int .i64 yv.x, .int .i64 yv.y, .int .i64 yv.z, .int .i64 rr, .slice oa RR.length ca, .slice ob SS.length cb] 41)) (.cells #[.int .i64 tx1, .int .i64 ty1, .int .i64 tz1] 45)
  have cy := CW.new (w0.alloc (.cells #[.int .i64 fv.x, .int .i64 fv.y, .int .i64 fv.z, .int .i64 yv.x, .int .i64 yv.y, .int .i64 yv.z, .int .i64 rr, .slice oa RR.length ca, .slice ob SS.length cb] 41)) [.int .i64 tx1, .int .i64 ty1, .int .i64 tz1] 45
  rw [World.size_alloc, ← hyb] at cy
  have CS : Hid (CW A1 sb [.int .i64 fv.x, .int .i64 fv.y, .int .i64 fv.z, .int .i64 yv.x, .int .i64 yv.y, .int .i64 yv.z, .int .i64 rr, .slice oa RR.length ca, .slice ob SS.length cb]) := by show CW _ _ _; rw [hA1, hsb]; exact (CW.new w0 [.int .i64 fv.x, .int .i64 fv.y, .int .i64 fv.z, .int .i64 yv.x, .int .i64 yv.y, .int .i64 yv.z, .int .i64 rr, .slice oa RR.length ca, .slice ob SS.length cb] 41).step ky
  have CY : Hid (CW A1 yb [.int .i64 tx1, .int .i64 ty1, .int .i64 tz1]) := by show CW _ _ _; rw [hA1]; exact cy
  have HB : Hid (Below w0.heap.size w0 A1) := by show Below _ _ _; rw [hA1]; exact b_step (n_after _ _) ky
  have HYB : Hid (w0.heap.size ≤ yb) := by show _ ≤ _; omega
  clear ky cy
  go_enter Tryz.func7, Tryz.ntmps7
  go_upto_region 1 with fail
  rw [← hA1, ← hyb, ← hsb]
  clear hA1 hyb hsb
  go_wp2_with (fail)
  refine Calls.mono (AWK.out _) ?_
  rintro e V1 ⟨rfl, hb⟩
  have HB : Hid (Below w0.heap.size w0 V1) := b_step HB.out hb
  have CS : Hid (CW _ _ _) := CS.out.step hb
  have CY : Hid (CW _ _ _) := CY.out.step hb
  clear hb AWK
  have x0 := (CS.out 0 _ rfl).1
  have x1 := (CS.out 1 _ rfl).1
  have x2 := (CS.out 2 _ rfl).1
  have x3 := (CS.out 3 _ rfl).1
  have x4 := (CS.out 4 _ rfl).1
  have x5 := (CS.out 5 _ rfl).1
  have x6 := (CS.out 6 _ rfl).1
  have x7 := (CS.out 7 _ rfl).1
  have x8 := (CS.out 8 _ rfl).1
  go_wp2_with (fail)
  refine Calls.mono (MD.out _ HB.out) ?_
  rintro e V2 ⟨⟨gx, gy, gz⟩, ⟨tx, ty, tz⟩, r, u, K, rfl, HK, hok, hl3, hg, ht, hr, hb⟩
  have hLC := HK.out.liesC
  have hokL : ∀ c ∈ K.map CoK.c, okC c := fun c hc => by obtain ⟨k, hk, rfl⟩ := List.mem_map.1 hc; exact hok k hk
  have hl3L : (K.map CoK.c).length ≤ 3 := by rw [List.length_map]; exact hl3
  have HKK0 : Hid _ := HK.out
  have HVY : Hid (yb < V1.heap.size) := CW.lt CY.out
  clear HK hok hl3
  obtain ⟨L, hL⟩ : ∃ L, K.map CoK.c = L := ⟨_, rfl⟩
  rw [hL] at hLC hokL hl3L
  have HKL : Hid (K.map CoK.c = L) := hL
  clear hL
  obtain ⟨uo, uc, rfl, huc, hum, _⟩ := hLC.form
  have HUC : Hid (L.length ≤ uc ∧ uc ≤ 9223372036854775807) := ⟨huc, hum⟩
  have HOK : Hid _ := hokL
  have HL3 : Hid _ := hl3L
  have HG42 : Hid _ := hg
  have HN38 : Hid _ := ht
  have HRB : Hid _ := hr
  have HB : Hid (Below w0.heap.size w0 V2) := b_step HB.out hb
  have CS : Hid (CW _ _ _) := CS.out.step hb
  have CY : Hid (CW _ _ _) := CY.out.step hb
  have CS2 : Hid (CW V2 _ _) := CS.out
  have CY2 : Hid (CW V2 _ _) := CY.out
  obtain ⟨V, hV⟩ : ∃ V, V = (V2.alloc (.cells #[.int .i64 gx, .int .i64 gy, .int .i64 gz] 23)).alloc (.cells #[.int .i64 tx, .int .i64 ty, .int .i64 tz] 23) := ⟨_, rfl⟩
  obtain ⟨gb, hgb⟩ : ∃ b, b = V2.heap.size := ⟨_, rfl⟩
  obtain ⟨tb, htb⟩ : ∃ b, b = V2.heap.size + 1 := ⟨_, rfl⟩
  have k1 := n_after V2 (.cells #[.int .i64 gx, .int .i64 gy, .int .i64 gz] 23)
  have k2 := n_after (V2.alloc (.cells #[.int .i64 gx, .int .i64 gy, .int .i64 gz] 23)) (.cells #[.int .i64 tx, .int .i64 ty, .int .i64 tz] 23)
  have c1 := (CW.new V2 [.int .i64 gx, .int .i64 gy, .int .i64 gz] 23).step k2
  have c2 := CW.new (V2.alloc (.cells #[.int .i64 gx, .int .i64 gy, .int .i64 gz] 23)) [.int .i64 tx, .int .i64 ty, .int .i64 tz] 23
  rw [World.size_alloc, ← htb] at c2
  rw [← hgb] at c1
  rw [← hV] at c1 c2
  have CG : Hid (CW V gb [.int .i64 gx, .int .i64 gy, .int .i64 gz]) := c1
  have CT : Hid (CW V tb [.int .i64 tx, .int .i64 ty, .int .i64 tz]) := c2
  have HTB0 : Hid (w0.heap.size ≤ tb) := by have h9 := HB.out.size; show _ ≤ _; omega
  have hbv : Below V2.heap.size V2 V := by rw [hV]; exact b_step k1 k2
  have HB : Hid (Below w0.heap.size w0 V) := b_step HB.out hbv
  have CS : Hid (CW _ _ _) := CS.out.step hbv
  have CY : Hid (CW _ _ _) := CY.out.step hbv
  have HKK : Hid (LK V1.heap.size V (.slice uo L.length uc) K) := LK.step HKK0.out hbv
  clear HKK0
  have hgt : gb ≠ tb := by omega
  have HGT : Hid _ := hgt
  have hsg : sb < V2.heap.size := CW.lt CS2.out
  have HYG : Hid (yb ≠ gb ∧ yb ≠ tb) := by have h9 := CW.lt CY2.out; show _ ∧ _; omega
  have HSG : Hid (sb ≠ gb ∧ sb ≠ tb) := by show _ ∧ _; omega
  clear CS2 CY2 k1 k2 c1 c2 hbv hb MD hgt hsg hg ht hr hokL hl3L huc hum hLC x0 x1 x2 x3 x4 x5 x6 x7 x8
  go_upto_region 3 with fail
  rw [← hV, ← htb, ← hgb]
  clear hV htb hgb
  obtain ⟨X, hX⟩ : ∃ X, X = V.alloc (.cells #[.bool false] 31) := ⟨_, rfl⟩
  obtain ⟨fb, hfb⟩ : ∃ b, b = V.heap.size := ⟨_, rfl⟩
  have HFB : Hid (V.heap.size ≤ fb) := by show _ ≤ _; omega
  have HFB0 : Hid (w0.heap.size ≤ fb) := by have h9 := HB.out.size; show _ ≤ _; omega
  have hcf : CW X fb [.bool false] := by rw [hX, hfb]; exact CW.new V [.bool false] 31
  have HBV : Hid (Below V.heap.size V X) := by show Below _ _ _; rw [hX]; exact n_after _ _
  have HFL : Hid (After ⟨fb, 0, none⟩ false X X) := (Leaves.refl _ _).done (hcf 0 _ rfl).1 (hcf 0 _ rfl).2
  have hl1 := CW.lt CG.out
  have hl2 := CW.lt CT.out
  have hl4 := CW.lt CS.out
  have HNY : Hid (yb ≠ fb) := by have h9 := CW.lt CY.out; show _ ≠ _; omega
  have HNE : Hid (gb ≠ fb ∧ tb ≠ fb ∧ sb ≠ fb) := by show _ ∧ _ ∧ _; omega
  clear hcf hl1 hl2 hl4
  go_upto_region 4 with fail
  rw [← hX, ← hfb]
  clear hX hfb
  have HH : Hid (∀ (M : List Cr) (lv : Value) (fl : Bool) (w' : World), LiesC w' lv M → w'.cell? ⟨fb, 0, none⟩ = some (.bool fl) → w'.frozen? ⟨fb, 0, none⟩ = false → Calls Tryz.prog 10 #[.pointer (some ⟨fb, 0, none⟩), .agg #[.int .i64 gx, .int .i64 gy, .int .i64 gz], .agg #[.int .i64 tx, .int .i64 ty, .int .i64 tz], .int .i64 r, lv] w' fun e W' => e = .returned (.tuple #[(holdV (⟨gx, gy, gz⟩ : V3) (⟨tx, ty, tz⟩ : V3) r M).1.val, .int .i64 ((hK (⟨gx, gy, gz⟩ : V3) (⟨tx, ty, tz⟩ : V3) r M : Nat) : Int)]) ∧ Hid (After ⟨fb, 0, none⟩ (fl || false) w' W')) := fun M lv fl w' h1 h2 h3 => by
    have i1 : (⟨gx, gy, gz⟩ : V3).in45 ∧ (⟨tx, ty, tz⟩ : V3).in45 := by have a := HG42.out; have b := HN38.out; unfold V3.m42 at a; unfold V3.n38 at b; unfold V3.in45; dsimp only at *; omega
    obtain ⟨a1, a2⟩ := hold_small r M i1.1 i1.2
    have h9 := hold_any (⟨gx, gy, gz⟩ : V3) (⟨tx, ty, tz⟩ : V3) r M lv fb fl w' h1 h2 h3 (by have := i1.1; unfold V3.in45 at this; unfold V3.i64; dsimp only at *; omega) (by have := i1.2; unfold V3.in45 at this; unfold V3.i64; dsimp only at *; omega)
    rw [a2] at h9
    have e9 : (holdV (⟨gx, gy, gz⟩ : V3) (⟨tx, ty, tz⟩ : V3) r M).2 = hK (⟨gx, gy, gz⟩ : V3) (⟨tx, ty, tz⟩ : V3) r M := by rw [a1]
    rw [e9] at h9
    exact h9
  have hdb := HDB.out
  rw [Pt.inB_iff] at hdb
  dsimp only at hdb
  obtain ⟨ex, hex⟩ : ∃ x, dx * 1048576 = x := ⟨_, rfl⟩
  have w_ex : IntKind.i64.wrap (dx * 1048576) = ex := by rw [hex, IntKind.wrap_i64]; omega
  obtain ⟨ey, hey⟩ : ∃ x, dy * 1048576 = x := ⟨_, rfl⟩
  have w_ey : IntKind.i64.wrap (dy * 1048576) = ey := by rw [hey, IntKind.wrap_i64]; omega
  obtain ⟨ez, hez⟩ : ∃ x, dz * 1048576 = x := ⟨_, rfl⟩
  have w_ez : IntKind.i64.wrap (dz * 1048576) = ez := by rw [hez, IntKind.wrap_i64]; omega
  have hby := hold_by (g := (⟨gx, gy, gz⟩ : V3)) (t := (⟨tx, ty, tz⟩ : V3)) (r := r) (d := (⟨dx, dy, dz⟩ : Pt)) (L := L) HG42.out HN38.out HRB.out HDB.out (fun c hc => (HOK.out c hc).1.1)
  have hin := hold_inM (r := r) (L := L) (g := (⟨gx, gy, gz⟩ : V3)) (t := (⟨tx, ty, tz⟩ : V3)) HG42.out HN38.out
  obtain ⟨⟨⟨ax, ay, az⟩, kN⟩, hhv⟩ : ∃ x, holdV (⟨gx, gy, gz⟩ : V3) (⟨tx, ty, tz⟩ : V3) r L = x := ⟨_, rfl⟩
  rw [hhv] at hby hin
  dsimp only at hby hin
  have hc1 := HH.out L (.slice uo L.length uc) false
  have i1 : (⟨gx, gy, gz⟩ : V3).in45 ∧ (⟨tx, ty, tz⟩ : V3).in45 := by have a := HG42.out; have b := HN38.out; unfold V3.m42 at a; unfold V3.n38 at b; unfold V3.in45; dsimp only at *; omega
  have e9 : hK (⟨gx, gy, gz⟩ : V3) (⟨tx, ty, tz⟩ : V3) r L = kN := by have h9 := (hold_small r L i1.1 i1.2).1; rw [hhv] at h9; exact (congrArg Prod.snd h9).symm
  rw [hhv, e9] at hc1
  have HC1 : Hid _ := hc1
  have a42 := HG42.out
  have b38 := HN38.out
  unfold V3.m42 at a42
  unfold V3.n38 at b38
  unfold V3.m43 at hin
  dsimp only at hin
  obtain ⟨mx, hmx⟩ : ∃ x, gx + ex = x := ⟨_, rfl⟩
  have w_mx : IntKind.i64.wrap (gx + ex) = mx := by rw [hmx, IntKind.wrap_i64]; omega
  obtain ⟨nx, hnx⟩ : ∃ x, tx + ex = x := ⟨_, rfl⟩
  have w_nx : IntKind.i64.wrap (tx + ex) = nx := by rw [hnx, IntKind.wrap_i64]; omega
  obtain ⟨ox, hox⟩ : ∃ x, ax + ex = x := ⟨_, rfl⟩
  have w_ox : IntKind.i64.wrap (ax + ex) = ox := by rw [hox, IntKind.wrap_i64]; omega
  obtain ⟨my, hmy⟩ : ∃ x, gy + ey = x := ⟨_, rfl⟩
  have w_my : IntKind.i64.wrap (gy + ey) = my := by rw [hmy, IntKind.wrap_i64]; omega
  obtain ⟨ny, hny⟩ : ∃ x, ty + ey = x := ⟨_, rfl⟩
  have w_ny : IntKind.i64.wrap (ty + ey) = ny := by rw [hny, IntKind.wrap_i64]; omega
  obtain ⟨oy, hoy⟩ : ∃ x, ay + ey = x := ⟨_, rfl⟩
  have w_oy : IntKind.i64.wrap (ay + ey) = oy := by rw [hoy, IntKind.wrap_i64]; omega
  obtain ⟨mz, hmz⟩ : ∃ x, gz + ez = x := ⟨_, rfl⟩
  have w_mz : IntKind.i64.wrap (gz + ez) = mz := by rw [hmz, IntKind.wrap_i64]; omega
  obtain ⟨nz, hnz⟩ : ∃ x, tz + ez = x := ⟨_, rfl⟩
  have w_nz : IntKind.i64.wrap (tz + ez) = nz := by rw [hnz, IntKind.wrap_i64]; omega
  obtain ⟨oz, hoz⟩ : ∃ x, az + ez = x := ⟨_, rfl⟩
  have w_oz : IntKind.i64.wrap (az + ez) = oz := by rw [hoz, IntKind.wrap_i64]; omega
  have eg : addG (⟨gx, gy, gz⟩ : V3) (⟨dx, dy, dz⟩ : Pt) = ⟨mx, my, mz⟩ := by unfold addG; dsimp only; rw [hex, hey, hez, hmx, hmy, hmz]
  have et : addG (⟨tx, ty, tz⟩ : V3) (⟨dx, dy, dz⟩ : Pt) = ⟨nx, ny, nz⟩ := by unfold addG; dsimp only; rw [hex, hey, hez, hnx, hny, hnz]
  have ea : addG ⟨ax, ay, az⟩ (⟨dx, dy, dz⟩ : Pt) = ⟨ox, oy, oz⟩ := by unfold addG; dsimp only; rw [hex, hey, hez, hox, hoy, hoz]
  rw [eg, et, ea] at hby
  have HC2 : Hid _ := fun (lv : Value) (fl : Bool) (w' : World) h3 h4 h5 => hold_any ⟨mx, my, mz⟩ ⟨nx, ny, nz⟩ r (L.map (movC (⟨dx, dy, dz⟩ : Pt))) lv fb fl w' h3 h4 h5 (by unfold V3.i64; dsimp only; omega) (by unfold V3.i64; dsimp only; omega)
  rw [hby.1, hby.2.2] at HC2
  dsimp only [V3.val] at HC1 HC2
  have HWE : Hid (IntKind.i64.wrap (dx * 1048576) = ex ∧ IntKind.i64.wrap (dy * 1048576) = ey ∧ IntKind.i64.wrap (dz * 1048576) = ez) := ⟨w_ex, w_ey, w_ez⟩
  have HWM : Hid ((IntKind.i64.wrap (gx + ex) = mx ∧ IntKind.i64.wrap (gy + ey) = my ∧ IntKind.i64.wrap (gz + ez) = mz) ∧ IntKind.i64.wrap (tx + ex) = nx ∧ IntKind.i64.wrap (ty + ey) = ny ∧ IntKind.i64.wrap (tz + ez) = nz) := ⟨⟨w_mx, w_my, w_mz⟩, w_nx, w_ny, w_nz⟩
  have HWO : Hid (IntKind.i64.wrap (ax + ex) = ox ∧ IntKind.i64.wrap (ay + ey) = oy ∧ IntKind.i64.wrap (az + ez) = oz) := ⟨w_ox, w_oy, w_oz⟩
  have fc := HFL.out.cell
  have ff := HFL.out.frozen
  have HC1 : Hid _ := HC1.out X (by have h9 := (HKK.out.step HBV.out).liesC; rw [HKL.out] at h9; exact h9) fc ff
  clear fc ff hdb hby hin hhv hc1 i1 e9 a42 b38 eg et ea HH HG42 HN38 HRB CS HSG hex w_ex hmx w_mx hnx w_nx hox w_ox hey w_ey hmy w_my hny w_ny hoy w_oy hez w_ez hmz w_mz hnz w_nz hoz w_oz
  have q0g := (CG.out.step HBV.out 0 _ rfl).1
  have q1g := (CG.out.step HBV.out 1 _ rfl).1
  have q2g := (CG.out.step HBV.out 2 _ rfl).1
  have q0t := (CT.out.step HBV.out 0 _ rfl).1
  have q1t := (CT.out.step HBV.out 1 _ rfl).1
  have q2t := (CT.out.step HBV.out 2 _ rfl).1
  go_wp2_with (fail)
  refine Calls.mono HC1.out ?_
  rintro e W1 ⟨rfl, HA⟩
  have HFL : Hid (After ⟨fb, 0, none⟩ false X W1) := HFL.out.trans HA.out
  have HBV : Hid (Below V.heap.size V W1) := HFL.out.on HBV.out HFB.out
  have CF : Hid (CW W1 fb [.bool false]) := cw_flag HFL.out.cell HFL.out.frozen
  clear HA HC1 HFL q0g q0t q1g q1t q2g q2t
  obtain ⟨W2, hW2⟩ : ∃ X, X = W1.alloc (.cells #[.int .i64 ax, .int .i64 ay, .int .i64 az] 23) := ⟨_, rfl⟩
  obtain ⟨ab, hab⟩ : ∃ x, x = W1.heap.size := ⟨_, rfl⟩
  have kb : Below W1.heap.size W1 W2 := by rw [hW2]; exact n_after _ _
  have CA : Hid (CW W2 ab [.int .i64 ax, .int .i64 ay, .int .i64 az]) := by show CW _ _ _; rw [hW2, hab]; exact CW.new W1 [.int .i64 ax, .int .i64 ay, .int .i64 az] 23
  have CF1 : Hid (CW W1 _ _) := CF.out
  have HB2 : Hid (Below V.heap.size V W2) := b_step HBV.out kb
  have CF : Hid (CW _ _ _) := CF.out.step kb
  have CY2 : Hid (CW W2 yb [.int .i64 tx1, .int .i64 ty1, .int .i64 tz1]) := CY.out.step HB2.out
  have HAF : Hid (ab ≠ fb) := by have h9 := CW.lt CF1.out; show _ ≠ _; omega
  have nya : Hid (ab ≠ yb) := by have h9 := CW.lt CY.out; have h8 := HBV.out.size; show _ ≠ _; omega
  clear kb HBV CY CF1
  obtain ⟨y0, yf0⟩ := CY2.out 0 _ rfl
  obtain ⟨y1, yf1⟩ := CY2.out 1 _ rfl
  obtain ⟨y2, yf2⟩ := CY2.out 2 _ rfl
  go_upto_region 5 with fail
  rw [← hW2, ← hab]
  clear hW2 hab
  refine RV.region_by (fun j v w => match j with | 0 => v = .pointer (some ⟨yb, 0, none⟩) | 1 => v = .int .i64 (tx1) | 2 => v = .int .i64 (dx) | 3 => v = .pointer (some ⟨yb, 1, none⟩) | 4 => v = .int .i64 (ty1) | 5 => v = .int .i64 (dy) | 6 => v = .pointer (some ⟨yb, 2, none⟩) | 7 => v = .int .i64 (tz1) | 8 => v = .int .i64 (dz) | 9 => v = .agg #[.int .i64 (dx), .int .i64 (dy), .int .i64 (dz)] | 10 => True | _ => True) (fun γ L w9 => (L 10 = false ∧ Below W2.heap.size W2 w9) ∨ (L 10 = true ∧ ∃ w, Below W2.heap.size W2 w ∧ w9 = (((w.setCell ⟨yb, 0, none⟩ (.int .i64 (dx))).setCell ⟨yb, 1, none⟩ (.int .i64 (dy))).setCell ⟨yb, 2, none⟩ (.int .i64 (dz))))) (by kernel_rfl) (by kernel_rfl) (by kernel_rfl) (by kernel_rfl) ?_ ?_ ?_
  · exact Or.inl ⟨rfl, (Below.refl _ W2).drew⟩
  · generalize hD : dstOf _ = D
    generalize hWA : waitsFor _ = WA
    generalize hZ : Act.mk _ _ = Z
    obtain ⟨R, hR⟩ : ∃ R : Nat → Value → World → Prop, R = (fun j v w => match j with | 0 => v = .pointer (some ⟨yb, 0, none⟩) | 1 => v = .int .i64 (tx1) | 2 => v = .int .i64 (dx) | 3 => v = .pointer (some ⟨yb, 1, none⟩) | 4 => v = .int .i64 (ty1) | 5 => v = .int .i64 (dy) | 6 => v = .pointer (some ⟨yb, 2, none⟩) | 7 => v = .int .i64 (tz1) | 8 => v = .int .i64 (dz) | 9 => v = .agg #[.int .i64 (dx), .int .i64 (dy), .int .i64 (dz)] | 10 => True | _ => True) := ⟨_, rfl⟩
    rw [← hR]
    have d0 : D 0 = some 40 := by rw [← hD]; rfl
    have d1 : D 1 = some 41 := by rw [← hD]; rfl
    have d2 : D 2 = some 42 := by rw [← hD]; rfl
    have d3 : D 3 = some 43 := by rw [← hD]; rfl
    have d4 : D 4 = some 44 := by rw [← hD]; rfl
    have d5 : D 5 = some 45 := by rw [← hD]; rfl
    have d6 : D 6 = some 46 := by rw [← hD]; rfl
    have d7 : D 7 = some 47 := by rw [← hD]; rfl
    have d8 : D 8 = some 48 := by rw [← hD]; rfl
    have d9 : D 9 = some 49 := by rw [← hD]; rfl
    have r0 : ∀ v w, R 0 v w = (v = .pointer (some ⟨yb, 0, none⟩)) := fun v w => by rw [hR]; rfl
    have r1 : ∀ v w, R 1 v w = (v = .int .i64 (tx1)) := fun v w => by rw [hR]; rfl
    have r2 : ∀ v w, R 2 v w = (v = .int .i64 (dx)) := fun v w => by rw [hR]; rfl
    have r3 : ∀ v w, R 3 v w = (v = .pointer (some ⟨yb, 1, none⟩)) := fun v w => by rw [hR]; rfl
    have r4 : ∀ v w, R 4 v w = (v = .int .i64 (ty1)) := fun v w => by rw [hR]; rfl
    have r5 : ∀ v w, R 5 v w = (v = .int .i64 (dy)) := fun v w => by rw [hR]; rfl
    have r6 : ∀ v w, R 6 v w = (v = .pointer (some ⟨yb, 2, none⟩)) := fun v w => by rw [hR]; rfl
    have r7 : ∀ v w, R 7 v w = (v = .int .i64 (tz1)) := fun v w => by rw [hR]; rfl
    have r8 : ∀ v w, R 8 v w = (v = .int .i64 (dz)) := fun v w => by rw [hR]; rfl
    have r9 : ∀ v w, R 9 v w = (v = .agg #[.int .i64 (dx), .int .i64 (dy), .int .i64 (dz)]) := fun v w => by rw [hR]; rfl
    have r10 : ∀ v w, R 10 v w = (True) := fun v w => by rw [hR]; rfl
    have E3 : ∀ (γ : Nat → Value) (L : Nat → Bool) (a : Act) (w : World), RV.Held D WA R (fun γ L w9 => (L 10 = false ∧ Below W2.heap.size W2 w9) ∨ (L 10 = true ∧ ∃ w, Below W2.heap.size W2 w ∧ w9 = (((w.setCell ⟨yb, 0, none⟩ (.int .i64 (dx))).setCell ⟨yb, 1, none⟩ (.int .i64 (dy))).setCell ⟨yb, 2, none⟩ (.int .i64 (dz))))) Z γ L a w → a.tmps[3]? = some (.pointer (some ⟨yb, 0, none⟩)) := fun γ L a w hH => (hH.rest 3 (by rw [← hD]; exact RV.dst_free (by kernel_rfl))).trans (by rw [← hZ]; rfl)
    have K : ∀ j v w w', R j v w → R j v w' := by rw [hR]; intro j v w w' h; exact h
    have A_10_1 : WA 10 1 := by rw [← hWA]; exact ⟨_, rfl, ⟨1, .phase⟩, by simp, rfl, rfl⟩
    have A_10_2 : WA 10 2 := by rw [← hWA]; exact ⟨_, rfl, ⟨2, .phase⟩, by simp, rfl, rfl⟩
    have A_10_4 : WA 10 4 := by rw [← hWA]; exact ⟨_, rfl, ⟨4, .phase⟩, by simp, rfl, rfl⟩
    have A_10_5 : WA 10 5 := by rw [← hWA]; exact ⟨_, rfl, ⟨5, .phase⟩, by simp, rfl, rfl⟩
    have A_10_7 : WA 10 7 := by rw [← hWA]; exact ⟨_, rfl, ⟨7, .phase⟩, by simp, rfl, rfl⟩
    have A_10_8 : WA 10 8 := by rw [← hWA]; exact ⟨_, rfl, ⟨8, .phase⟩, by simp, rfl, rfl⟩
    clear hD hWA hZ hR
    refine RV.AllDo.cons 0 (RV.does_pure (fun γ v L w hl h => by rw [RV.more_ne (L := L) (i := 0) (j := 10) (by decide)]; exact h) (fun γ L a w hH hl hA => by have e0 := E3 γ L a w hH; exact ⟨.pointer (some ⟨yb, 0, none⟩), by simp [execOp, go_sem, e0], (r0 _ _).mpr rfl⟩)) ?_
    refine RV.AllDo.cons 1 (RV.does_pure (fun γ v L w hl h => by rw [RV.more_ne (L := L) (i := 1) (j := 10) (by decide)]; exact h) (fun γ L a w hH hl hA => by have l0 : L 0 = true := hA ⟨0, .data⟩ (by simp) rfl; have e0 := hH.slot 0 40 d0 l0; have g0 := hH.holds 0 l0; rw [r0] at g0; rw [g0] at e0; have hB9 := early9 hH.glob (RV.not_yet hH A_10_1 hl); have z0 := c_after hB9 y0; exact ⟨.int .i64 (tx1), by simp [execOp, go_sem, e0, z0], (r1 _ _).mpr rfl⟩)) ?_
    refine RV.AllDo.cons 2 (RV.does_call (fun γ L a w hH hl hA => by have l0 : L 1 = true := hA ⟨1, .data⟩ (by simp) rfl; have e0 := hH.slot 1 41 d1 l0; have g0 := hH.holds 1 l0; rw [r1] at g0; rw [g0] at e0; have hB9 := early9 hH.glob (RV.not_yet hH A_10_2 hl); exact ⟨20, #[.int .i64 (tx1), .int .i64 (1048576)], by simp [go_sem, e0], Calls.mono (HPx.out w) (by rintro e w2 ⟨rfl, hb⟩; exact ⟨_, rfl, (r2 _ _).mpr rfl, fun j v _ h => K j v _ _ h, Or.inl ⟨by rw [RV.more_ne (L := L) (i := 2) (j := 10) (by decide)]; exact RV.not_yet hH A_10_2 hl, hB9.trans (hb.mono hB9.size)⟩⟩)⟩)) ?_
    refine RV.AllDo.cons 3 (RV.does_pure (fun γ v L w hl h => by rw [RV.more_ne (L := L) (i := 3) (j := 10) (by decide)]; exact h) (fun γ L a w hH hl hA => by have e0 := E3 γ L a w hH; exact ⟨.pointer (some ⟨yb, 1, none⟩), by simp [execOp, go_sem, e0], (r3 _ _).mpr rfl⟩)) ?_
    refine RV.AllDo.cons 4 (RV.does_pure (fun γ v L w hl h => by rw [RV.more_ne (L := L) (i := 4) (j := 10) (by decide)]; exact h) (fun γ L a w hH hl hA => by have l0 : L 3 = true := hA ⟨3, .data⟩ (by simp) rfl; have e0 := hH.slot 3 43 d3 l0; have g0 := hH.holds 3 l0; rw [r3] at g0; rw [g0] at e0; have hB9 := early9 hH.glob (RV.not_yet hH A_10_4 hl); have z0 := c_after hB9 y1; exact ⟨.int .i64 (ty1), by simp [execOp, go_sem, e0, z0], (r4 _ _).mpr rfl⟩)) ?_
    refine RV.AllDo.cons 5 (RV.does_call (fun γ L a w hH hl hA => by have l0 : L 4 = true := hA ⟨4, .data⟩ (by simp) rfl; have e0 := hH.slot 4 44 d4 l0; have g0 := hH.holds 4 l0; rw [r4] at g0; rw [g0] at e0; have hB9 := early9 hH.glob (RV.not_yet hH A_10_5 hl); exact ⟨20, #[.int .i64 (ty1), .int .i64 (1048576)], by simp [go_sem, e0], Calls.mono (HPy.out w) (by rintro e w2 ⟨rfl, hb⟩; exact ⟨_, rfl, (r5 _ _).mpr rfl, fun j v _ h => K j v _ _ h, Or.inl ⟨by rw [RV.more_ne (L := L) (i := 5) (j := 10) (by decide)]; exact RV.not_yet hH A_10_5 hl, hB9.trans (hb.mono hB9.size)⟩⟩)⟩)) ?_
    refine RV.AllDo.cons 6 (RV.does_pure (fun γ v L w hl h => by rw [RV.more_ne (L := L) (i := 6) (j := 10) (by decide)]; exact h) (fun γ L a w hH hl hA => by have e0 := E3 γ L a w hH; exact ⟨.pointer (some ⟨yb, 2, none⟩), by simp [execOp, go_sem, e0], (r6 _ _).mpr rfl⟩)) ?_
    refine RV.AllDo.cons 7 (RV.does_pure (fun γ v L w hl h => by rw [RV.more_ne (L := L) (i := 7) (j := 10) (by decide)]; exact h) (fun γ L a w hH hl hA => by have l0 : L 6 = true := hA ⟨6, .data⟩ (by simp) rfl; have e0 := hH.slot 6 46 d6 l0; have g0 := hH.holds 6 l0; rw [r6] at g0; rw [g0] at e0; have hB9 := early9 hH.glob (RV.not_yet hH A_10_7 hl); have z0 := c_after hB9 y2; exact ⟨.int .i64 (tz1), by simp [execOp, go_sem, e0, z0], (r7 _ _).mpr rfl⟩)) ?_
    refine RV.AllDo.cons 8 (RV.does_call (fun γ L a w hH hl hA => by have l0 : L 7 = true := hA ⟨7, .data⟩ (by simp) rfl; have e0 := hH.slot 7 47 d7 l0; have g0 := hH.holds 7 l0; rw [r7] at g0; rw [g0] at e0; have hB9 := early9 hH.glob (RV.not_yet hH A_10_8 hl); exact ⟨20, #[.int .i64 (tz1), .int .i64 (1048576)], by simp [go_sem, e0], Calls.mono (HPz.out w) (by rintro e w2 ⟨rfl, hb⟩; exact ⟨_, rfl, (r8 _ _).mpr rfl, fun j v _ h => K j v _ _ h, Or.inl ⟨by rw [RV.more_ne (L := L) (i := 8) (j := 10) (by decide)]; exact RV.not_yet hH A_10_8 hl, hB9.trans (hb.mono hB9.size)⟩⟩)⟩)) ?_
    refine RV.AllDo.cons 9 (RV.does_pure (fun γ v L w hl h => by rw [RV.more_ne (L := L) (i := 9) (j := 10) (by decide)]; exact h) (fun γ L a w hH hl hA => by have l0 : L 2 = true := hA ⟨2, .data⟩ (by simp) rfl; have e0 := hH.slot 2 42 d2 l0; have g0 := hH.holds 2 l0; rw [r2] at g0; rw [g0] at e0; have l1 : L 5 = true := hA ⟨5, .data⟩ (by simp) rfl; have e1 := hH.slot 5 45 d5 l1; have g1 := hH.holds 5 l1; rw [r5] at g1; rw [g1] at e1; have l2 : L 8 = true := hA ⟨8, .data⟩ (by simp) rfl; have e2 := hH.slot 8 48 d8 l2; have g2 := hH.holds 8 l2; rw [r8] at g2; rw [g2] at e2; exact ⟨.agg #[.int .i64 (dx), .int .i64 (dy), .int .i64 (dz)], by simp [execOp, go_sem, e0, e1, e2], (r9 _ _).mpr rfl⟩)) ?_
    refine RV.AllDo.cons 10 (RV.does_store (fun γ L a w hH hl hA => by have e0 := E3 γ L a w hH; have l1 : L 9 = true := hA ⟨9, .data⟩ (by simp) rfl; have e1 := hH.slot 9 49 d9 l1; have g1 := hH.holds 9 l1; rw [r9] at g1; rw [g1] at e1; have hB9 := early9 hH.glob hl; have z0 := c_after hB9 y0; have zf0 := f_after hB9 y0 yf0; have z1 := c_after hB9 y1; have zf1 := f_after hB9 y1 yf1; have z2 := c_after hB9 y2; have zf2 := f_after hB9 y2 yf2; exact ⟨(((w.setCell ⟨yb, 0, none⟩ (.int .i64 (dx))).setCell ⟨yb, 1, none⟩ (.int .i64 (dy))).setCell ⟨yb, 2, none⟩ (.int .i64 (dz))), by simp [execOp, go_sem, e0, e1, z0, zf0, z1, zf1, z2, zf2], (r10 _ _).mpr trivial, fun j v _ h => K j v _ _ h, Or.inr ⟨RV.more_self, w, hB9, rfl⟩⟩)) ?_
    exact RV.AllDo.nil
  · intro γ a5 w5 L9 hL hLo hH
    have ha := RV.held_act hH hL (by kernel_rfl) (by kernel_rfl)
    obtain ⟨w8, hb8, rfl⟩ := late9 hH.glob (hL 10 (by decide))
    have y0 : γ 0 = .pointer (some ⟨yb, 0, none⟩) := hH.holds 0 (hL 0 (by decide))
    have y1 : γ 1 = .int .i64 (tx1) := hH.holds 1 (hL 1 (by decide))
    have y2 : γ 2 = .int .i64 (dx) := hH.holds 2 (hL 2 (by decide))
    have y3 : γ 3 = .pointer (some ⟨yb, 1, none⟩) := hH.holds 3 (hL 3 (by decide))
    have y4 : γ 4 = .int .i64 (ty1) := hH.holds 4 (hL 4 (by decide))
    have y5 : γ 5 = .int .i64 (dy) := hH.holds 5 (hL 5 (by decide))
    have y6 : γ 6 = .pointer (some ⟨yb, 2, none⟩) := hH.holds 6 (hL 6 (by decide))
    have y7 : γ 7 = .int .i64 (tz1) := hH.holds 7 (hL 7 (by decide))
    have y8 : γ 8 = .int .i64 (dz) := hH.holds 8 (hL 8 (by decide))
    have y9 : γ 9 = .agg #[.int .i64 (dx), .int .i64 (dy), .int .i64 (dz)] := hH.holds 9 (hL 9 (by decide))
    rw [ha]
    clear ha hH hL hLo
    simp only [RV.putAll, Act.put, List.setIfInBounds_toArray, List.set_cons_zero, List.set_cons_succ, Nat.zero_add, Nat.reduceAdd, y0, y1, y2, y3, y4, y5, y6, y7, y8, y9]
    clear y0 y1 y2 y3 y4 y5 y6 y7 y8 y9
    have HZ : Hid _ := hb8
    clear y0 y1 y2 yf0 yf1 yf2
    obtain ⟨Z, hZ⟩ : ∃ V, V = ((w8.setCell ⟨yb, 0, none⟩ (.int .i64 dx)).setCell ⟨yb, 1, none⟩ (.int .i64 dy)).setCell ⟨yb, 2, none⟩ (.int .i64 dz) := ⟨_, rfl⟩
    have hv8 := b_step HB2.out HZ.out
    have CG : Hid (CW Z gb [.int .i64 gx, .int .i64 gy, .int .i64 gz]) := by show CW _ _ _; rw [hZ]; exact cw_put3 (CG.out.step hv8) (Ne.symm HYG.out.1) _ _ _
    have CT : Hid (CW Z tb [.int .i64 tx, .int .i64 ty, .int .i64 tz]) := by show CW _ _ _; rw [hZ]; exact cw_put3 (CT.out.step hv8) (Ne.symm HYG.out.2) _ _ _
    have CA : Hid (CW Z ab [.int .i64 ax, .int .i64 ay, .int .i64 az]) := by show CW _ _ _; rw [hZ]; exact cw_put3 (CA.out.step HZ.out) nya.out _ _ _
    have CF : Hid (CW Z fb [.bool false]) := by show CW _ _ _; rw [hZ]; exact cw_put3 (CF.out.step HZ.out) (Ne.symm HNY.out) _ _ _
    have CY : Hid (CW Z yb [.int .i64 dx, .int .i64 dy, .int .i64 dz]) := by show CW _ _ _; rw [hZ]; exact cw_own3 (CY2.out.step HZ.out) _ _ _
    have HB3 : Hid (Below w0.heap.size w0 Z) := by show Below _ _ _; rw [hZ]; exact (((b_step HB.out hv8).setCell HYB.out _).setCell HYB.out _).setCell HYB.out _
    have HLC : Hid (LiesC Z (.slice uo L.length uc) L) := by
      show LiesC _ _ _
      have h9 := ((HKK.out.step hv8).kept (X := Z) (fun b h1 h2 => by rw [hZ]; have hn := HVY.out; exact heap_put3 (by omega) _ _ _)).liesC
      rw [HKL.out] at h9
      exact h9
    have HFB : Hid (w0.heap.size ≤ fb) := HFB0.out
    rw [← hZ]
    clear hZ HZ HB2 CY2 hv8 HKK HKL HVY HYG HNY nya HB HFB0 HYB
    have HNF : Hid (gb ≠ fb ∧ tb ≠ fb) := ⟨HNE.out.1, HNE.out.2.1⟩
    have y0 := (CY.out 0 _ rfl).1
    have y1 := (CY.out 1 _ rfl).1
    have y2 := (CY.out 2 _ rfl).1
    obtain ⟨w_ex, w_ey, w_ez⟩ := HWE.out
    have HFZ : fb < Z.heap.size := CW.lt CF.out
    obtain ⟨Y, hY⟩ : ∃ X, X = Z.alloc (.cells #[.int .i64 ex, .int .i64 ey, .int .i64 ez] 23) := ⟨_, rfl⟩
    obtain ⟨eb, heb⟩ : ∃ x, x = Z.heap.size := ⟨_, rfl⟩
    have kb : Below Z.heap.size Z Y := by rw [hY]; exact n_after _ _
    have CE : Hid (CW Y eb [.int .i64 ex, .int .i64 ey, .int .i64 ez]) := by show CW _ _ _; rw [hY, heb]; exact CW.new Z [.int .i64 ex, .int .i64 ey, .int .i64 ez] 23
    have HEF0 : eb ≠ fb := by omega
    clear HFZ
    have CG : Hid (CW _ _ _) := CG.out.step kb
    have CT : Hid (CW _ _ _) := CT.out.step kb
    have CA : Hid (CW _ _ _) := CA.out.step kb
    have CF : Hid (CW _ _ _) := CF.out.step kb
    have CY : Hid (CW _ _ _) := CY.out.step kb
    have HB4 : Hid (Below w0.heap.size w0 Y) := b_step HB3.out kb
    have HLC : Hid _ := HLC.out.below kb
    have HEF : Hid (eb ≠ fb) := HEF0
    clear kb HB3 HNE
    go_upto_region 7 with fail
    rw [← hY, ← heb]
    clear hY heb y0 y1 y2 w_ex w_ey w_ez HWE
    go_wp2_with (fail)
    go_loopg [14, 15] L.length (fun gm s14 s15 wr => ∃ (i : Nat) (oo : Option Addr) (cc : Nat) (K : List CoK), s14 = .slice oo K.length cc ∧ s15 = .int .i64 (i : Int) ∧ i ≤ L.length ∧ Hid (gm = L.length - i) ∧ Hid (K.length = i) ∧ Hid (LM Y.heap.size wr (.slice oo K.length cc) K) ∧ Hid (K.map CoK.c = (L.take i).map (movC (⟨dx, dy, dz⟩ : Pt))) ∧ Hid (Below Y.heap.size Y wr))
    case atStart => exact ⟨0, none, 0, [], rfl, rfl, Nat.zero_le _, rfl, rfl, LM.start _ _, rfl, Below.refl _ _⟩
    case round =>
      obtain ⟨i, oo, cc, K, rfl, rfl, hi9, HG, HKi, HK, HKM, HB9⟩ := hrel
      by_cases hit : i < L.length
      · have hl1 : (i : Int) < (L.length : Int) := by omega
        have hLw := HLC.out.below HB9.out
        obtain ⟨o', cap', e', _, _, hcl⟩ := hLw.form
        cases e'
        obtain ⟨lb, lo, qv, bv, fv, rfl, x0, x1, x2, x3, l1, l2, l3⟩ := hcl i hit
        obtain ⟨o0', cap0', e0', _, _, hcl0⟩ := HLC.out.form
        cases e0'
        obtain ⟨lb', lo', qv', bv', fv', e0', y0, y1, y2, y3, m1, m2, m3⟩ := hcl0 i hit
        cases e0'
        have hq2 : bv' = bv := Option.some.inj ((c_after HB9.out y1).symm.trans x1)
        have hq3 : fv' = fv := Option.some.inj ((c_after HB9.out y2).symm.trans x2)
        subst hq2 hq3
        have hf2 := far_old HK.out.row m2 (Nat.le_refl _)
        have hf3 := far_old HK.out.row m3 (Nat.le_refl _)
        have hok : okC (cr L i) := HOK.out _ (by unfold cr; rw [List.getElem?_eq_getElem hit]; exact List.getElem_mem hit)
        have htk := take_cr (f := movC (⟨dx, dy, dz⟩ : Pt)) hit
        clear hcl hcl0 hLw y0 y1 y2 y3 m1 m2 m3
        obtain ⟨c, hc⟩ : ∃ x, cr L i = x := ⟨_, rfl⟩
        rw [hc] at x3 l1 l2 l3 hok hf2 hf3 htk
        clear hc
        obtain ⟨o4, c4, rfl, _⟩ := l1.form
        obtain ⟨o5, c5, rfl, _⟩ := l2.form
        obtain ⟨o6, c6, rfl, _⟩ := l3.form
        have HF23 : Hid (farB (Value.slice oo K.length cc).ownBlock (.slice o5 c.A.length c5) c.A ∧ farB (Value.slice oo K.length cc).ownBlock (.slice o6 c.E.length c6) c.E) := ⟨hf2, hf3⟩
        have HL1 : Hid _ := l1
        have HL23 : Hid (Lies wr (.slice o5 c.A.length c5) c.A ∧ Lies wr (.slice o6 c.E.length c6) c.E) := ⟨l2, l3⟩
        have HTK : Hid _ := htk
        have HOKC : Hid _ := hok
        clear l1 l2 l3 hf2 hf3 htk hok
        have hcp : movC (⟨dx, dy, dz⟩ : Pt) c = ⟨c.P.map (NM.by_ (⟨dx, dy, dz⟩ : Pt)), c.A, c.E, c.r⟩ := rfl
        have HCP : Hid _ := hcp
        clear hcp
        go_upto_region 13 with fail
        obtain ⟨V1c, hV1c⟩ : ∃ X, X = wr.alloc (.cells #[.slice none 0 0, .slice o5 c.A.length c5, .slice o6 c.E.length c6, .int .i64 c.r] 28) := ⟨_, rfl⟩
        obtain ⟨kb_, hkb_⟩ : ∃ x, x = wr.heap.size := ⟨_, rfl⟩
        have kb : Below wr.heap.size wr V1c := by rw [hV1c]; exact n_after _ _
        have CK : Hid (CW V1c kb_ [.slice none 0 0, .slice o5 c.A.length c5, .slice o6 c.E.length c6, .int .i64 c.r]) := by show CW _ _ _; rw [hV1c, hkb_]; exact CW.new wr [.slice none 0 0, .slice o5 c.A.length c5, .slice o6 c.E.length c6, .int .i64 c.r] 28
        rw [← hV1c, ← hkb_]
        have HB1c : Hid (Below wr.heap.size wr V1c) := kb
        have HKB : Hid (wr.heap.size ≤ kb_ ∧ kb_ < V1c.heap.size) := by have h9 := CW.lt CK.out; show _ ∧ _; omega
        have X0 : Hid _ := x0
        clear kb hV1c hkb_ x0 x1 x2 x3
        have hmx : (c.P.length : Int) < 1099511627776 := by have h9 := HOKC.out.1.1.2.1.1; omega
        have HMX : Hid _ := hmx
        clear hmx
        obtain ⟨wo, rfl⟩ : ∃ x, x = wr := ⟨_, rfl⟩
        go_wp2_with (fail)
        go_loopg [17] c.P.length (fun gm s17 w2 => ∃ (n : Nat) (M : List Pt) (ou : Option Addr) (cu : Nat), s17 = .int .i64 (n : Int) ∧ n ≤ c.P.length ∧ Hid (gm = c.P.length - n) ∧ Hid (M.length = n) ∧ Hid (M = (c.P.take n).map (NM.by_ (⟨dx, dy, dz⟩ : Pt))) ∧ Hid (CW w2 kb_ [.slice ou M.length cu, .slice o5 c.A.length c5, .slice o6 c.E.length c6, .int .i64 c.r]) ∧ Hid (w2.ownsRow (kb_ + 1) 45 3 (.slice ou M.length cu) M.length (fl3 M)) ∧ Hid (Below wo.heap.size wo w2) ∧ Hid (kb_ + 1 ≤ w2.heap.size))
        case atStart => exact ⟨0, [], none, 0, rfl, Nat.zero_le _, rfl, rfl, rfl, CK.out, World.ownsRow_nil _ _ _ _, HB1c.out, HKB.out.2⟩
        case round =>
          obtain ⟨n, M, ou, cu, rfl, hn9, HGN, HMn, HM, CK2, HRW, HBN, HSN⟩ := hrel
          by_cases hnt : n < c.P.length
          · have hn1 : (n : Int) < (c.P.length : Int) := by omega
            have x0 := c_after HBN.out X0.out
            obtain ⟨o', cap', e', _, _, hpc⟩ := (HL1.out.below HBN.out).form
            cases e'
            obtain ⟨g4, f4, rfl, p0, p1, p2⟩ := hpc n hnt
            have hpb := HOKC.out.1.1.2.2 (pt c.P n) (pt_mem hnt)
            have htn := take_next (f := NM.by_ (⟨dx, dy, dz⟩ : Pt)) hnt
            obtain ⟨⟨px, py, pz⟩, hpt⟩ : ∃ q, pt c.P n = q := ⟨_, rfl⟩
            rw [hpt] at p0 p1 p2 hpb htn
            dsimp only at p0 p1 p2
            have hdb := HDB.out
            rw [Pt.inB_iff] at hdb hpb
            dsimp only at hdb hpb
            obtain ⟨sx, hsx⟩ : ∃ x, px + dx = x := ⟨_, rfl⟩
            obtain ⟨sy, hsy⟩ : ∃ x, py + dy = x := ⟨_, rfl⟩
            obtain ⟨sz, hsz⟩ : ∃ x, pz + dz = x := ⟨_, rfl⟩
            have w_x : IntKind.i64.wrap (px + dx) = sx := by rw [hsx, IntKind.wrap_i64]; omega
            have w_y : IntKind.i64.wrap (py + dy) = sy := by rw [hsy, IntKind.wrap_i64]; omega
            have w_z : IntKind.i64.wrap (pz + dz) = sz := by rw [hsz, IntKind.wrap_i64]; omega
            have ebp : NM.by_ (⟨dx, dy, dz⟩ : Pt) ⟨px, py, pz⟩ = ⟨sx, sy, sz⟩ := by unfold NM.by_; dsimp only; rw [hsx, hsy, hsz]
            rw [ebp, ← HM.out] at htn
            have HTN : Hid _ := htn
            have HMX2 : Hid ((M.length : Int) < 1099511627776) := by have a := HMX.out; have b := HMn.out; show _ < _; omega
            clear hpc hpb hpt hdb hsx hsy hsz ebp htn HM
            go_upto_region 17 with fail
            obtain ⟨V2c, hV2c⟩ : ∃ X, X = wr.alloc (.cells #[.int .i64 px, .int .i64 py, .int .i64 pz] 45) := ⟨_, rfl⟩
            obtain ⟨pb, hpb⟩ : ∃ x, x = wr.heap.size := ⟨_, rfl⟩
            have kb : Below wr.heap.size wr V2c := by rw [hV2c]; exact n_after _ _
            have CP : Hid (CW V2c pb [.int .i64 px, .int .i64 py, .int .i64 pz]) := by show CW _ _ _; rw [hV2c, hpb]; exact CW.new wr [.int .i64 px, .int .i64 py, .int .i64 pz] 45
            rw [← hV2c, ← hpb]
            have HRW2 : Hid (V2c.ownsRow (kb_ + 1) 45 3 (.slice ou M.length cu) M.length (fl3 M)) := own_below HRW.out kb
            have CK2 : Hid (CW _ _ _) := CK2.out.step kb
            have HBN2 : Hid (Below wo.heap.size wo V2c) := b_step HBN.out kb
            have HSN2 : Hid (kb_ + 1 ≤ V2c.heap.size) := Nat.le_trans HSN.out kb.size
            have hy := b_step HB9.out HBN2.out
            clear kb hV2c hpb x0 p0 p1 p2 HRW HBN HSN
            obtain ⟨k0, kf0⟩ := CK2.out 0 _ rfl
            have p0 := (CP.out 0 _ rfl).1
            have p1 := (CP.out 1 _ rfl).1
            have p2 := (CP.out 2 _ rfl).1
            have y0 := (CY.out.step hy 0 _ rfl).1
            have y1 := (CY.out.step hy 1 _ rfl).1
            have y2 := (CY.out.step hy 2 _ rfl).1
            clear hy
            have hmx := HMX2.out
            have hsn := HSN2.out
            go_wp2_with (at_builtin; refine wpList_append_own_at _ rfl _ _ 26 rfl (kb_ + 1) 45 i0p _ 3 24 Tryz.underlying26 HIP.out.1 HIP.out.2.1 HIP.out.2.2.1 HIP.out.2.2.2 rfl (by decide) _ _ _ rfl (own_below HRW2.out (n_after V2c _)) ⟨V2c.heap.size, 0, none⟩ 1 1 [.int .i64 sx, .int .i64 sy, .int .i64 sz] rfl rfl (news_at (heap_alloc_new V2c _)) (by intro u hu; simp at hu; rcases hu with rfl | rfl | rfl <;> rfl) (by unfold maxLen; omega) (by omega) (by simp; omega) ?_; intro u9 V6 r8 g8 _ s8; have hne8 : (Value.slice ou M.length cu).ownBlock ≠ some kb_ := (fun e => by have h9 := (HRW2.out.lt kb_ e).1; omega); have hb8 : Below wo.heap.size wo V6 := (b_step HBN2.out (n_after V2c _)).grown g8 (by have := HBN2.out.size; simp; omega) (fun b e => by have h9 := (HRW2.out.lt b e).1; have h7 := HKB.out.1; omega); have CK8 : Hid (CW V6 kb_ [.slice ou M.length cu, .slice o5 c.A.length c5, .slice o6 c.E.length c6, .int .i64 c.r]) := cw_grown (CK2.out.step (n_after V2c _)) g8 hne8; have HS8 : Hid (kb_ + 1 ≤ V6.heap.size) := (by have h9 := g8.size; simp at h9; show _ ≤ _; omega); have HR8 : Hid _ := r8; have HB8 : Hid _ := hb8; obtain ⟨gg8, kk8, rfl⟩ := ownsRow_succ r8; obtain ⟨k08, kf08⟩ := CK8.out 0 _ rfl; clear r8 g8 s8 hne8 hb8 k0 kf0 p0 p1 p2 y0 y1 y2)
            have hlm : (M ++ [(⟨sx, sy, sz⟩ : Pt)]).length = M.length + 1 := by simp
            have HR9 : Hid ((V6.setCell ⟨kb_, 0, none⟩ (.slice (some ⟨gg8, 0, none⟩) (M.length + 1) kk8)).ownsRow (kb_ + 1) 45 3 (.slice (some ⟨gg8, 0, none⟩) (M.length + 1) kk8) (M ++ [(⟨sx, sy, sz⟩ : Pt)]).length (fl3 (M ++ [(⟨sx, sy, sz⟩ : Pt)]))) := by rw [hlm, fl3_append]; exact ownsRow_setCell_below HR8.out (a := ⟨kb_, 0, none⟩) (Nat.lt_succ_self _) _
            have CK9 : Hid (CW (V6.setCell ⟨kb_, 0, none⟩ (.slice (some ⟨gg8, 0, none⟩) (M.length + 1) kk8)) kb_ [.slice (some ⟨gg8, 0, none⟩) (M.length + 1) kk8, .slice o5 c.A.length c5, .slice o6 c.E.length c6, .int .i64 c.r]) := cw_set0 CK8.out _
            have HB9b : Hid (Below wo.heap.size wo (V6.setCell ⟨kb_, 0, none⟩ (.slice (some ⟨gg8, 0, none⟩) (M.length + 1) kk8))) := HB8.out.setCell HKB.out.1 _
            have HS9 : Hid (kb_ + 1 ≤ (V6.setCell ⟨kb_, 0, none⟩ (.slice (some ⟨gg8, 0, none⟩) (M.length + 1) kk8)).heap.size) := by have := HS8.out; show _ ≤ _; simpa [World.setCell] using this
            clear hmx hsn CK8 HR8 HB8 HS8 k08 kf08 CK2 CP HRW2 HBN2 HSN2 HMX2
            go_roundg (c.P.length - (n + 1))
            case measure => have := HGN.out; omega
            case rel => exact ⟨n + 1, M ++ [⟨sx, sy, sz⟩], some ⟨gg8, 0, none⟩, kk8, by go_num, by omega, rfl, by show _ = _; rw [hlm, HMn.out], HTN, by rw [hlm]; exact CK9, by rw [hlm]; rw [hlm] at HR9; exact HR9, HB9b, HS9⟩
          · obtain rfl : n = c.P.length := by omega
            have hM : M = c.P.map (NM.by_ (⟨dx, dy, dz⟩ : Pt)) := by rw [HM.out, List.take_length]
            have HCM : Hid (movC (⟨dx, dy, dz⟩ : Pt) c = ⟨M, c.A, c.E, c.r⟩) := by show _ = _; rw [HCP.out, hM]
            have HFN : Hid (farB (Value.slice oo K.length cc).ownBlock (.slice ou M.length cu) M) := far_new (A := wo) (World.ownsRow.mono HRW.out (by have := HKB.out.1; omega)) HK.out.row M
            have HKW : Hid _ := HK.out.step HBN.out
            have HLM : Hid (Lies wr (.slice ou M.length cu) M) := Lies.of_row HRW.out
            have HLX : Hid (Lies wr (.slice o5 c.A.length c5) c.A ∧ Lies wr (.slice o6 c.E.length c6) c.E) := ⟨HL23.out.1.below HBN.out, HL23.out.2.below HBN.out⟩
            have HBY : Hid (Below Y.heap.size Y wr) := b_step HB9.out HBN.out
            have x0 := c_after HBN.out X0.out
            clear hM HM HMn HGN HRW HSN X0 HL1
            have k0 := (CK2.out 0 _ rfl).1
            have k1 := (CK2.out 1 _ rfl).1
            have k2 := (CK2.out 2 _ rfl).1
            have k3 := (CK2.out 3 _ rfl).1
            go_wp2_with (at_builtin; refine wpList_append_own_at _ rfl _ _ 24 rfl Y.heap.size 28 i0 _ 4 80 Tryz.underlying24 HI.out.1 HI.out.2.1 HI.out.2.2.1 HI.out.2.2.2 rfl (by decide) _ _ _ rfl (own_below HKW.out.row (n_after wr _)) ⟨wr.heap.size, 0, none⟩ 1 1 [.slice ou M.length cu, .slice o5 c.A.length c5, .slice o6 c.E.length c6, .int .i64 c.r] rfl rfl (news_at4 (heap_alloc_new wr _)) (by intro u hu; simp at hu; rcases hu with rfl | rfl | rfl | rfl <;> rfl) (by have h7 := HKi.out; have h8 := HL3.out; unfold maxLen; omega) (by have h7 := HKi.out; have h8 := HL3.out; omega) (by have h7 := HBY.out.size; simp; omega) ?_; intro u9 V6 r8 g8 _ s8; obtain ⟨gg8, kk8, rfl⟩ := ownsRow_succ r8; have hKN : LM Y.heap.size V6 (.slice (some ⟨gg8, 0, none⟩) (K.length + 1) kk8) (K ++ [⟨.slice ou M.length cu, .slice o5 c.A.length c5, .slice o6 c.E.length c6, ⟨M, c.A, c.E, c.r⟩⟩]) := (HKW.out.step (n_after wr _)).app (k := ⟨.slice ou M.length cu, .slice o5 c.A.length c5, .slice o6 c.E.length c6, ⟨M, c.A, c.E, c.r⟩⟩) ⟨HLM.out.below (n_after wr _), HLX.out.1.below (n_after wr _), HLX.out.2.below (n_after wr _)⟩ ⟨HFN.out, HF23.out.1, HF23.out.2⟩ r8 g8 s8; have HKN : Hid _ := hKN; have HB6 : Hid (Below Y.heap.size Y V6) := (b_step HBY.out (n_after wr _)).grown g8 (by have h7 := HBY.out.size; simp; omega) (fun b e => (HKW.out.row.lt b e).1); clear r8 g8 s8 hKN k0 k1 k2 k3 x0)
            have hKl2 : (K ++ [(⟨.slice ou M.length cu, .slice o5 c.A.length c5, .slice o6 c.E.length c6, ⟨M, c.A, c.E, c.r⟩⟩ : CoK)]).length = K.length + 1 := by simp
            have HKM2 : Hid ((K ++ [(⟨.slice ou M.length cu, .slice o5 c.A.length c5, .slice o6 c.E.length c6, ⟨M, c.A, c.E, c.r⟩⟩ : CoK)]).map CoK.c = (L.take (i + 1)).map (movC (⟨dx, dy, dz⟩ : Pt))) := by
              show _ = _
              rw [← HTK.out, List.map_append, HKM.out, HCM.out]
              rfl
            generalize K ++ [(⟨.slice ou M.length cu, .slice o5 c.A.length c5, .slice o6 c.E.length c6, ⟨M, c.A, c.E, c.r⟩⟩ : CoK)] = K2 at *
            go_roundg (L.length - (i + 1))
            case measure => have := HG.out; omega
            case rel => exact ⟨i + 1, some ⟨gg8, 0, none⟩, kk8, K2, by rw [hKl2], by go_num, by omega, rfl, by show _ = _; rw [hKl2, HKi.out], by rw [hKl2]; exact HKN, HKM2, HB6⟩
      · obtain rfl : i = L.length := by omega
        have hlc : LiesC wr (.slice oo K.length cc) (L.map (movC (⟨dx, dy, dz⟩ : Pt))) := by have h9 := HK.out.liesC; rw [HKM.out, List.take_length] at h9; exact h9
        have hf := CF.out.step HB9.out 0 _ rfl
        have HC3 : Hid _ := HC2.out (.slice oo K.length cc) false wr hlc hf.1 hf.2
        have CF9 : Hid (CW _ _ _) := CF.out.step HB9.out
        have CG : Hid (CW _ _ _) := CG.out.step HB9.out
        have CT : Hid (CW _ _ _) := CT.out.step HB9.out
        have CE : Hid (CW _ _ _) := CE.out.step HB9.out
        have CA : Hid (CW _ _ _) := CA.out.step HB9.out
        have HBW : Hid (Below w0.heap.size w0 wr) := b_step HB4.out HB9.out
        clear hlc hf HC2 HG HK HKM HKi HB9 HB4 HLC HOK
        have g0 := (CG.out 0 _ rfl).1
        have g1 := (CG.out 1 _ rfl).1
        have g2 := (CG.out 2 _ rfl).1
        have t0 := (CT.out 0 _ rfl).1
        have t1 := (CT.out 1 _ rfl).1
        have t2 := (CT.out 2 _ rfl).1
        have d0 := (CE.out 0 _ rfl).1
        have d1 := (CE.out 1 _ rfl).1
        have d2 := (CE.out 2 _ rfl).1
        obtain ⟨⟨w_1, w_2, w_3⟩, w_4, w_5, w_6⟩ := HWM.out
        go_wp2_with (fail)
        refine Calls.mono HC3.out ?_
        rintro e W8 ⟨rfl, HA⟩
        have HB8 : Hid (Below w0.heap.size w0 W8) := HA.out.on HBW.out HFB.out
        have CE : Hid (CW _ _ _) := CE.out.after HA.out HEF.out
        have CA : Hid (CW _ _ _) := CA.out.after HA.out HAF.out
        have fc := HA.out.cell
        clear HA HC3 HBW g0 g1 g2 t0 t1 t2 d0 d1 d2 w_1 w_2 w_3 w_4 w_5 w_6 CG CT CF9
        obtain ⟨W9, hW9⟩ : ∃ X, X = W8.alloc (.cells #[.int .i64 ox, .int .i64 oy, .int .i64 oz] 23) := ⟨_, rfl⟩
        obtain ⟨ob9, hob9⟩ : ∃ x, x = W8.heap.size := ⟨_, rfl⟩
        have kb : Below W8.heap.size W8 W9 := by rw [hW9]; exact n_after _ _
        have CO : Hid (CW W9 ob9 [.int .i64 ox, .int .i64 oy, .int .i64 oz]) := by show CW _ _ _; rw [hW9, hob9]; exact CW.new W8 [.int .i64 ox, .int .i64 oy, .int .i64 oz] 23
        have HB9 : Hid (Below w0.heap.size w0 W9) := b_step HB8.out kb
        have CE : Hid (CW _ _ _) := CE.out.step kb
        have CA : Hid (CW _ _ _) := CA.out.step kb
        have fc := c_after kb fc
        clear kb HB8
        go_upto_region 20 with fail
        rw [← hW9, ← hob9]
        clear hW9 hob9
        have b0 := (CA.out 0 _ rfl).1
        have b1 := (CA.out 1 _ rfl).1
        have b2 := (CA.out 2 _ rfl).1
        have c0 := (CO.out 0 _ rfl).1
        have c1 := (CO.out 1 _ rfl).1
        have c2 := (CO.out 2 _ rfl).1
        have d0 := (CE.out 0 _ rfl).1
        have d1 := (CE.out 1 _ rfl).1
        have d2 := (CE.out 2 _ rfl).1
        obtain ⟨w_1, w_2, w_3⟩ := HWO.out
        clear CA CO CE
        go_wp2_with (fail)
        go_ret
        exact ⟨rfl, HB9.out⟩

/-! ### The row's step, after the guide's template -/
set_option maxRecDepth 100000 in
theorem lifted (os : Os) (started : os.Started) (H : Type) (enc : TypeId × Value → H) :
    ReturnsInHanded {} Tryz.checked os 7 .any (Rows.ccdMovedSpec.pre6 enc Tryz.prog Tryz.f7 Rows.ccdMovedRow.domain false) (Rows.ccdMovedSpec.post enc Tryz.prog Tryz.f7 false true false false) := by
  refine returnsInHanded_of_change (C := Tryz.checked) own started (by kernel_rfl) Tryz.func7
    (ChangeSpec.witness6 (enc := enc) (C := Tryz.checked) false ⟨#[], #[.agg #[.int .i64 0, .int .i64 0, .int .i64 0, .int .i64 0, .int .i64 0, .int .i64 0, .int .i64 0, .slice none 0 0, .slice none 0 0], .agg #[.int .i64 0, .int .i64 0, .int .i64 0]], []⟩ 8 (by kernel_rfl) (by kernel_rfl) (by kernel_rfl) (by kernel_rfl)) ?_
  intro W base args ds gs before hval0 hW hcnd _
  have hval : ∀ (j : Nat) t v, Tryz.f7.params[j]? = some t → args[j]? = some v → Value.okWide Tryz.prog W .any base t v := hval0
  have hW' := hW
  obtain ⟨p, q, hA0, hV, rfl, hfz, hnd⟩ := hW
  have hA : DataW.TrodAll enc Tryz.prog W 0 (fun _ => true) true Tryz.f7.params.toList args.toList ds p := hA0
  rw [Tryz.params7] at hA hval
  obtain ⟨v0, vs0, d0, ds0, p0, q0, hargs, rfl, rfl, h0, r0⟩ := trodAll_cons hA
  obtain ⟨v1, vs1, d1, ds1, p1, q1, rfl, rfl, rfl, h1, r1⟩ := trodAll_cons r0
  obtain ⟨rfl, rfl, rfl⟩ := trodAll_nil r1
  obtain rfl : args = #[v0, v1] := by cases args; simp_all
  obtain ⟨rfl, rfl⟩ := trodVars_none hV
  have k0 := h0
  have lt0 : ∀ x ∈ p0, x.block < W.heap.size := by obtain ⟨m, hm⟩ := k0; exact DataW.trod_lt m _ _ _ hm
  obtain ⟨fv, yv, rr, oa, RR, ca, ob, SS, cb, rfl, hR, oR, hS, oS, bds⟩ := open_shot (hval 0 41 v0 rfl rfl) h0
  have k1 := h1
  have lt1 : ∀ x ∈ p1, x.block < W.heap.size := by obtain ⟨m, hm⟩ := k1; exact DataW.trod_lt m _ _ _ hm
  obtain ⟨tx1, ty1, tz1, rfl, _, _, nx1, ny1, nz1⟩ := open_point (hval 1 45 v1 rfl rfl) h1
  have btx1_ := bounds_i64 nx1
  have bty1_ := bounds_i64 ny1
  have btz1_ := bounds_i64 nz1
  clear hA0 hval0
  refine (walk fv yv rr oa RR ca ob SS cb tx1 ty1 tz1 W hR oR hS oS bds (by omega) (by omega) (by omega)).mono fun e W' ⟨he, bel⟩ => ?_
  subst he
  exact ⟨_, rfl, _, _, _, [], _, [], hW', trodAll_mk1 (shut_bool Tryz.underlying4 _), (trodAll_cons_mk (Below.trod laidOut (by kernel_rfl) (of_decide_eq_true (by kernel_rfl)) k0 bel lt0) (trodAll_cons_mk (Below.trod laidOut (by kernel_rfl) (of_decide_eq_true (by kernel_rfl)) k1 bel lt1) trodAll_mk0)), rfl, bel.frame _, fun h => by cases h⟩

theorem over : Rows.ccdMovedRow.holds Tryz.pinned (OpenSpec.ofChange Rows.ccdMovedSpec) :=
  OpenClaim.holds_of_wide 7 Tryz.f7 rfl rfl rfl rfl rfl rfl rfl ⟨rfl, rfl, rfl, rfl, rfl⟩ rfl rfl rfl rfl rfl (by kernel_rfl) Tryz.func7 (by kernel_rfl)
    (of_decide_eq_true (by kernel_rfl)) (by unfold Func.isWrapper; first | (rw [if_pos (by decide +kernel)]; kernel_rfl) | (rw [if_neg (by decide +kernel)]; exact ⟨rfl, rfl⟩))
    (fun os started H enc _ => lifted os started H enc)

end ccdMoved

theorem ccdMoved_holds : Rows.CcdMovedSaid := ccdMoved.over
#print axioms ccdMoved_holds
end Go.Proofs.YtablgiflakncfaaGreat
