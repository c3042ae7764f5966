/-
  The contracts of 'slices.Index' and 'slices.Contains' at registers: whether a list has one.
-/
import Derived.Test.YtengmgdnpojfjaaSpoils
import Derived.Deep.QuietTactic
import Derived.BigQuiet
namespace Go.Proofs.Ytengmgdnpojfjaa
open Go.RowKit
set_option linter.unusedVariables false

def rgIs (c n : Int) (r : Rg) : Bool := decide (c = r.cls ∧ n = r.n)
def hasRg (l : List Rg) (c n : Int) : Bool := l.any (rgIs c n)

theorem eqReg (c1 n1 c2 n2 : Int) (w : World) : (binOp .eql 100 (.agg #[.int .i64 c1, .int .i64 n1]) (.agg #[.int .i64 c2, .int .i64 n2])).run Try.prog w = .ok (.bool (c1 == c2 && n1 == n2)) w := by
  have u3 := Try.underlying3
  have a3 := Try.isAgg3
  have z3 := Try.sizeOf3
  have hS : Try.prog.underlying 100 = some (.struct (Try.prog.fieldsOf 100)) := by kernel_rfl
  have hp : Try.prog.stoodInHeld 100 = false := by kernel_rfl
  rw [run_eql_struct, show (10000 : Nat) = 9999 + 1 from rfl, run_equalIn_agg w 9999 100 _ _ hS hp]
  simp only [Program.fieldsOf, Try.underlying100]
  go_simp
  by_cases h1 : c1 = c2 <;> by_cases h2 : n1 = n2 <;> simp [h1, h2]
theorem eqRegG : Try.prog.eqGuardType Try.prog.depth 100 = false := by kernel_rfl

theorem any_none {α : Type} (l : List α) (p : α → Bool) (k : Nat) (h : l.length ≤ k) (h1 : (l.take k).any p = false) : l.any p = false := by
  rwa [List.take_of_length_le h] at h1
theorem any_snoc {α : Type} (l : List α) (p : α → Bool) (k : Nat) (h : k < l.length) (h1 : (l.take k).any p = false) (h2 : p l[k] = false) : (l.take (k + 1)).any p = false := by
  rw [List.take_succ_eq_append_getElem h, List.any_append, h1]
  simp [h2]
theorem any_at {α : Type} (l : List α) (p : α → Bool) (k : Nat) (h : k < l.length) (h2 : p l[k] = true) : l.any p = true :=
  List.any_eq_true.2 ⟨l[k], List.getElem_mem h, h2⟩

set_option maxHeartbeats 1000000 in
theorem index_any (l : List Rg) (al : Option Addr) (cl : Nat) (c n : Int) (w : World) (hl : SlOf w 2 RRg (.slice al l.length cl) l) :
    Calls Try.prog 84 #[.slice al l.length cl, .agg #[.int .i64 c, .int .i64 n]] w fun e w' => ∃ i : Int, e = .returned (.int .i64 i) ∧ hasRg l c n = decide (0 ≤ i) ∧ Below w.heap.size w w' := by
  obtain ⟨_, _, _, la⟩ := hl.out
  unfold longest at la
  obtain ⟨W1, hW1⟩ : ∃ W1, W1 = w.alloc (.cells #[.int .i64 c, .int .i64 n] 100) := ⟨_, rfl⟩
  have hbw1 : Below w.heap.size w W1 := by rw [hW1]; exact (Below.refl _ _).alloc (Nat.le_refl _) _
  have d0 : W1.cell? ⟨w.heap.size, 0, none⟩ = some (.int .i64 c) := by rw [hW1]; simp
  have d1 : W1.cell? ⟨w.heap.size, 1, none⟩ = some (.int .i64 n) := by rw [hW1]; simp
  have HW : Hid (W1 = w.alloc (.cells #[.int .i64 c, .int .i64 n] 100)) := hW1
  clear hW1
  have eqr := eqReg
  have eqg := eqRegG
  go_enter Try.func84, Try.ntmps84
  go_wp2
  go_loopw [8] (fun i wr => ∃ k : Nat, k ≤ l.length ∧ i = .int .i64 k ∧ Below (w.heap.size + 1) W1 wr ∧ w.heap.size < wr.heap.size ∧ Hid ((l.take k).any (rgIs c n) = false)) (fun i _ => l.length - (intOf i).toNat)
  case atStart => exact ⟨0, Nat.zero_le _, rfl, by rw [HW.out]; exact Below.refl _ _, by simp, by simp [Hid]⟩
  case round =>
    obtain ⟨k, hk, rfl, hbr, hs, HK⟩ := hrel
    have hbwr : Below w.heap.size w wr := hbw1.trans (hbr.mono (by omega))
    have f0 := (hbr.cell (p := ⟨w.heap.size, 0, none⟩) (by simp)).trans d0
    have f1 := (hbr.cell (p := ⟨w.heap.size, 1, none⟩) (by simp)).trans d1
    clear d0 d1
    by_cases hlt : k < l.length
    · obtain ⟨b2, off2, rfl, hb2, c0, c1⟩ := rg_cells (hl.below hbwr fun _ _ h => h) k hlt
      have i0 : (0 : Int) ≤ (k : Int) := by omega
      have i1 : (k : Int) < (l.length : Int) := by omega
      cases hr : rgIs c n l[k]
      · have H : Hid ((l.take (k + 1)).any (rgIs c n) = false) := any_snoc _ _ _ hlt HK.out hr
        have hne : (c == l[k].cls && n == l[k].n) = false := by simpa [rgIs] using hr
        clear HK
        generalize l[k] = r at *
        clear hr
        go_wp2_with fail
        go_quiet (fail)
        go_wp2
        go_roundw
        case rel => exact ⟨k + 1, by omega, by go_num, below_drewN hbr _, by simpa using hs, H⟩
        case measure => simp [intOf]; omega
      · have H : Hid (hasRg l c n = decide ((0 : Int) ≤ (k : Int))) := by show _ = _; rw [hasRg, any_at _ _ _ hlt hr]; simp
        have hne : (c == l[k].cls && n == l[k].n) = true := by simpa [rgIs] using hr
        clear HK
        generalize l[k] = r at *
        clear hr
        go_wp2_with fail
        go_quiet (fail)
        go_wp2
        go_ret
        exact ⟨k, rfl, H.out, below_drewN hbwr _⟩
    · have H : Hid (hasRg l c n = decide ((0 : Int) ≤ -1)) := by show _ = _; rw [hasRg, any_none _ _ k (by omega) HK.out]; simp
      clear HK
      go_wp2
      go_ret
      exact ⟨-1, rfl, H.out, hbwr⟩

theorem contains_is (l : List Rg) (al : Option Addr) (cl : Nat) (c n : Int) (b : Bool) (h : hasRg l c n = b) (w : World) (hl : SlOf w 2 RRg (.slice al l.length cl) l) :
    Calls Try.prog 82 #[.slice al l.length cl, .agg #[.int .i64 c, .int .i64 n]] w fun e w' => e = .returned (.bool b) ∧ Below w.heap.size w w' := by
  have hb1 : Below w.heap.size w (w.alloc (.cells #[.int .i64 c, .int .i64 n] 100)) := (Below.refl _ _).alloc (Nat.le_refl _) _
  have hl1 := hl.below hb1 fun _ _ h => h
  go_enter Try.func82, Try.ntmps82
  go_wp2_with fail
  refine (index_any l al cl c n _ hl1).mono ?_
  rintro e w1 ⟨i, rfl, hi, hb⟩
  rw [h] at hi
  have Hi : Hid (b = decide (0 ≤ i)) := hi
  clear hi
  go_wp2
  go_ret
  exact ⟨ret_bool Hi.out.symm, hb1.trans (hb.mono (by simp))⟩
end Go.Proofs.Ytengmgdnpojfjaa
