/-
  The contract of 'slices.Concat' of two lists of moves.
-/
import Derived.Test.YtdlglinbjkaokabOrJ
import Derived.Deep.DeepCutAuto
import Derived.Deep.CutBlock
namespace Go.Proofs.Ytdlglinbjkaokab
open Go.RowKit Go.Lib
set_option linter.unusedVariables false

set_option maxHeartbeats 8000000 in
theorem concat_any (g : Nat) (a1 a2 : Option Addr) (n1 n2 c1 c2 : Nat) (l1 l2 : List Mv) (w : World) (h1 : SlOf w 6 RMv (.slice a1 n1 c1) l1) (h2 : SlOf w 6 RMv (.slice a2 n2 c2) l2) (e1 : l1.length = n1) (e2 : l2.length = n2) (hn1 : n1 ≤ 5000) (hn2 : n2 ≤ 5000) (g0 : w.cell? ⟨g, 0, none⟩ = some (.slice a1 n1 c1)) (g1 : w.cell? ⟨g, 1, none⟩ = some (.slice a2 n2 c2)) :
    Calls Try.prog 27 #[.slice (some ⟨g, 0, none⟩) 2 2] w fun e w' => ∃ v, e = .returned v ∧ w'.ownsRow w.heap.size 29 6 v (n1 + n2) ((l1 ++ l2).flatMap cMv) ∧ Below w.heap.size w w' := by
  have lg := block_lt g0
  have hs1 : ¬ ((n1 : Int) < 0) := by omega
  have hs2 : ¬ ((n1 : Int) + (n2 : Int) < 0) := by omega
  have hw1 : IntKind.i64.wrap (n1 : Int) = n1 := by rw [IntKind.wrap_i64]; omega
  have hw2 : IntKind.i64.wrap ((n1 : Int) + n2) = (n1 : Int) + n2 := by rw [IntKind.wrap_i64]; omega
  have HG := grow_any (n1 + n2) (by omega) w
  have hcast : (((n1 + n2 : Nat)) : Int) = (n1 : Int) + n2 := by omega
  rw [hcast] at HG
  have H1 : Hid (SlOf w 6 RMv (.slice a1 n1 c1) l1 ∧ l1.length = n1 ∧ SlOf w 6 RMv (.slice a2 n2 c2) l2 ∧ l2.length = n2) := ⟨h1, e1, h2, e2⟩
  clear h1 h2 e1 e2 hcast
  go_enter Try.func27, Try.ntmps27
  go_wp2
  refine wp_loop_rounds 3 ?_
  rw [rounds_succ]
  go_wp2
  rw [rounds_succ]
  go_wp2
  rw [rounds_succ]
  go_upto_region 10 with (go_at_call 31; refine HG.mono ?_; clear HG; rintro e w1 ⟨v, rfl, ho, hb⟩)
  have hv : ∃ a0 c0, v = .slice a0 0 c0 := by
    rcases ho.2 with ⟨h, _⟩ | ⟨q, cap, cur, h, _⟩
    · exact ⟨none, 0, h⟩
    · exact ⟨_, cap, h⟩
  obtain ⟨a0, c0, rfl⟩ := hv
  have hz1 := hb.size
  obtain ⟨a3, c3, w2, hr2, ho2, hg2⟩ := app_slice ho hz1 l1 (H1.out.1.below hb fun _ _ h => h) H1.out.2.1 (by omega) 23
  have hb2 : Below w.heap.size w w2 := hb.grown hg2 hz1 (fun q hq => (own_base ho hq).1)
  have hz2 := hb2.size
  obtain ⟨a4, c4, w3, hr3, ho3, hg3⟩ := app_slice ho2 hz2 l2 (H1.out.2.2.1.below hb2 fun _ _ h => h) H1.out.2.2.2 (by omega) 23
  have hb3 : Below w.heap.size w w3 := hb2.grown hg3 hz2 (fun q hq => (own_base ho2 hq).1)
  rw [Nat.zero_add] at hr2 hr3 ho3
  have q0 := (hb.cell (p := ⟨g, 0, none⟩) lg).trans g0
  have q1 := (hb2.cell (p := ⟨g, 1, none⟩) lg).trans g1
  have HE : Hid (w3.ownsRow w.heap.size 29 6 (.slice a4 (n1 + n2) c4) (n1 + n2) ((l1 ++ l2).flatMap cMv) ∧ Below w.heap.size w w3) := by
    refine ⟨?_, hb3⟩
    rw [List.flatMap_append]
    simpa using ho3
  clear ho ho2 ho3 hg2 hg3 hb hb2 hb3 hz1 hz2
  go_wp2
  refine wp_loop_rounds 3 ?_
  rw [rounds_succ]
  go_wp2_with (at_builtin; refine wpL_append rfl _ _ _ rfl rfl rfl hr2 ?_)
  rw [rounds_succ]
  go_wp2_with (at_builtin; refine wpL_append rfl _ _ _ rfl rfl rfl hr3 ?_)
  rw [rounds_succ]
  go_wp2
  go_ret
  exact ⟨_, rfl, HE.out⟩
end Go.Proofs.Ytdlglinbjkaokab
