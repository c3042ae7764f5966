/-
  The contract of 'flow.Check'.
  The contract of 'flow.Check' that fits statements over pieces.
-/
import Derived.Test.YtjpmkamacbenhaaF6
import Derived.Test.YtjpmkamacbenhaaF8
namespace Go.Proofs.Ytjpmkamacbenhaa
open Go.RowKit
set_option linter.unusedVariables false

set_option maxHeartbeats 4000000 in
theorem flowCheck_any (f : Fn) (K : Nat) (m0 m1 : Int) (av ab : Option Addr) (cv cb : Nat) (r : Int) (hr : flowE f m0 m1 K = r) (w : World) (hv : SlOf w 1 RInt (.slice av f.values.length cv) f.values) (hb : SlOf w 3 (RBlk w) (.slice ab f.blocks.length cb) f.blocks) (hin : shapeErr f m0 m1 = 0 → FlowIn f K) :
    Calls Try.prog 26 #[.agg #[.slice av f.values.length cv, .slice ab f.blocks.length cb], .agg #[.int .i64 m0, .int .i64 m1]] w fun e w' => e = .returned (.int .i64 r) ∧ Below w.heap.size w w' := by
  obtain ⟨W, hW⟩ : ∃ W, W = (w.alloc (.cells #[.slice av f.values.length cv, .slice ab f.blocks.length cb] 25)).alloc (.cells #[.int .i64 m0, .int .i64 m1] 32) := ⟨_, rfl⟩
  have hbw : Below w.heap.size w W := by rw [hW]; exact ((Below.refl _ _).alloc (Nat.le_refl _) _).alloc (by simp) _
  have HW : Hid (W = (w.alloc (.cells #[.slice av f.values.length cv, .slice ab f.blocks.length cb] 25)).alloc (.cells #[.int .i64 m0, .int .i64 m1] 32)) := hW
  have HC := examine_is f K m0 m1 av ab cv cb r hr W (hv.below hbw fun _ _ h => h) (hb.below hbw (RBlk.below hbw)) hin
  clear hW hv hb hin hr
  go_enter Try.func26, Try.ntmps26
  go_wp2_with fail
  rw [← HW.out]
  refine HC.mono ?_
  clear HC
  rintro e w1 ⟨a, b, c, n1, n2, n3, c1, c2, c3, rfl, _, hb1⟩
  have hbe : Below w.heap.size w w1 := hbw.trans (hb1.mono hbw.size)
  have hbe' := hbe.alloc hbe.size (.cells #[.slice a n1 c1, .slice b n2 c2, .slice c n3 c3] 90)
  go_wp2
  go_ret
  exact ⟨rfl, hbe'⟩
end Go.Proofs.Ytjpmkamacbenhaa
namespace Go.Proofs.Ytjpmkamacbenhaa
open Go.RowKit
set_option linter.unusedVariables false

theorem flowCheck_is (f : Fn) (K nv nb : Nat) (m0 m1 : Int) (av ab : Option Addr) (cv cb : Nat) (r : Int) (hr : flowE f m0 m1 K = r) (hnv : f.values.length = nv) (hnb : f.blocks.length = nb) (w : World) (hv : SlOf w 1 RInt (.slice av nv cv) f.values) (hb : SlOf w 3 (RBlk w) (.slice ab nb cb) f.blocks) (hin : shapeErr f m0 m1 = 0 → FlowIn f K) :
    Calls Try.prog 26 #[.agg #[.slice av nv cv, .slice ab nb cb], .agg #[.int .i64 m0, .int .i64 m1]] w fun e w' => e = .returned (.int .i64 r) ∧ Below w.heap.size w w' := by
  subst hnv hnb; exact flowCheck_any f K m0 m1 av ab cv cb r hr w hv hb hin
theorem flow_empty (m0 m1 : Int) (K : Nat) (h0 : 2 ≤ m0 ∧ m0 ≤ 10) (h1 : 2 ≤ m1 ∧ m1 ≤ 10) : flowE ⟨[], []⟩ m0 m1 K = 1 := by
  unfold flowE
  rw [shape_empty m0 m1 h0 h1, if_pos (by simp)]
end Go.Proofs.Ytjpmkamacbenhaa
