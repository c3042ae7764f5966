/-
  Contracts of flow that fit statements over pieces.
-/
import Derived.Test.YtanhfkpphdbaaaaW6
import Derived.Test.YtanhfkpphdbaaaaB3
import Derived.Test.YtanhfkpphdbaaaaF6
import Derived.Test.YtanhfkpphdbaaaaF7
namespace Go.Proofs.Ytanhfkpphdbaaaa
open Go.RowKit
set_option linter.unusedVariables false

theorem dominators_is (f : Fn) (K nv nb : Nat) (m0 m1 : Int) (av ab : Option Addr) (cv cb : Nat) (hr : flowE f m0 m1 K = 0) (hnv : f.values.length = nv) (hnb : f.blocks.length = nb) (w : World) (hv : SlOf w 1 RInt (.slice av nv cv) f.values) (hb : SlOf w 3 (RBlk w) (.slice ab nb cb) f.blocks) (hin : shapeErr f m0 m1 = 0 → FlowIn f K) :
    Calls Try.prog 14 #[.agg #[.slice av nv cv, .slice ab nb cb], .agg #[.int .i64 m0, .int .i64 m1]] w fun e w' => ∃ g ib db co, e = .returned (.tuple #[.agg #[.slice (some ⟨g, 0, none⟩) nb co, .slice (some ⟨ib, 0, none⟩) nb nb, .slice (some ⟨db, 0, none⟩) nb nb], .int .i64 0]) ∧ (w.heap.size ≤ g ∧ nb ≤ co) ∧ w.heap.size ≤ ib ∧ w.heap.size ≤ db ∧ SlOf w' 1 RInt (.slice (some ⟨g, 0, none⟩) nb co) (orderM f.blocks) ∧ SlOf w' 1 RInt (.slice (some ⟨ib, 0, none⟩) nb nb) (fnL nb (idomF f K)) ∧ SlOf w' 1 RInt (.slice (some ⟨db, 0, none⟩) nb nb) (fnL nb (depthF f K)) ∧ Below w.heap.size w w' := by
  subst hnv hnb
  refine (dominators_any f K m0 m1 av ab cv cb 0 hr w hv hb hin).mono ?_
  rintro e w' ⟨v, rfl, h1, _, h2⟩
  obtain ⟨g, ib, db, co, rfl, hg, hi, hd, s1, s2, s3⟩ := h1 rfl
  exact ⟨g, ib, db, co, rfl, hg, hi, hd, s1, s2, s3, h2⟩
theorem sl_nil0 {α : Type} (w : World) (k : Nat) (R : List Value → α → Prop) : SlOf w k R (.slice none 0 0) [] := SlOf_nil _ _ _ _ _
end Go.Proofs.Ytanhfkpphdbaaaa
