/-
  The contracts of the reference's small functions: 'In', 'valueMay', 'classOf', 'Apart'.
-/
import Derived.Test.YtnghhhlcifpiaaaReuse
namespace Go.Proofs.Ytnghhhlcifpiaaa
open Go.RowKit
set_option linter.unusedVariables false

theorem top_at (w : World) (a : Array Value) (t : TypeId) (i : Nat) : (w.alloc (.cells a t)).cell? ⟨w.heap.size, i, none⟩ = a[i]? := by
  have h : (w.alloc (.cells a t)).heap[w.heap.size]? = some (.cells a t) := by
    show (w.heap.push _)[_]? = _
    simp
  simp only [World.cell?, h]
  simp
theorem two_at (w : World) (a b : Array Value) (ta tb : TypeId) :
    (∀ i, ((w.alloc (.cells a ta)).alloc (.cells b tb)).cell? ⟨w.heap.size, i, none⟩ = a[i]?) ∧
    (∀ i, ((w.alloc (.cells a ta)).alloc (.cells b tb)).cell? ⟨w.heap.size + 1, i, none⟩ = b[i]?) := by
  have z1 : (w.alloc (.cells a ta)).heap.size = w.heap.size + 1 := by simp
  refine ⟨fun i => ?_, fun i => ?_⟩
  · rw [old_cell _ _ _ _ (by omega)]; exact top_at w a ta i
  · rw [← z1]; exact top_at _ b tb i
theorem three_at (w : World) (a b c : Array Value) (ta tb tc : TypeId) :
    (∀ i, (((w.alloc (.cells a ta)).alloc (.cells b tb)).alloc (.cells c tc)).cell? ⟨w.heap.size, i, none⟩ = a[i]?) ∧
    (∀ i, (((w.alloc (.cells a ta)).alloc (.cells b tb)).alloc (.cells c tc)).cell? ⟨w.heap.size + 1, i, none⟩ = b[i]?) ∧
    (∀ i, (((w.alloc (.cells a ta)).alloc (.cells b tb)).alloc (.cells c tc)).cell? ⟨w.heap.size + 1 + 1, i, none⟩ = c[i]?) := by
  have z1 : (w.alloc (.cells a ta)).heap.size = w.heap.size + 1 := by simp
  have z2 : ((w.alloc (.cells a ta)).alloc (.cells b tb)).heap.size = w.heap.size + 1 + 1 := by simp
  refine ⟨fun i => ?_, fun i => ?_, fun i => ?_⟩
  · rw [old_cell _ _ _ _ (by omega), old_cell _ _ _ _ (by omega)]; exact top_at w a ta i
  · rw [old_cell _ _ _ _ (by omega), ← z1]; exact top_at _ b tb i
  · rw [← z2]; exact top_at _ c tc i

def inB (n lo hi : Int) : Bool := decide (lo ≤ n ∧ n ≤ hi)

theorem in_is (n lo hi : Int) (b : Bool) (hb : inB n lo hi = b) (w : World) :
    Calls Try.prog 17 #[.int .i64 n, .int .i64 lo, .int .i64 hi] w fun e w' => e = .returned (.bool b) ∧ w' = w := by
  by_cases h : lo ≤ n
  · have H : Hid (decide (n ≤ hi) = b) := by show _ = _; rw [← hb]; simp [inB, h]
    clear hb
    go_enter Try.func17, Try.ntmps17
    go_wp2
    go_ret
    exact ⟨ret_bool H.out, rfl⟩
  · have H : Hid (false = b) := by show _ = _; rw [← hb]; simp [inB]; omega
    clear hb
    go_enter Try.func17, Try.ntmps17
    go_wp2
    go_ret
    exact ⟨ret_bool H.out, rfl⟩

theorem inB_value (n : Nat) (v : Int) : inB v 0 ((n : Int) - 1) = isValueB n v := by
  rw [Bool.eq_iff_iff]
  simp only [inB, isValueB, decide_eq_true_eq]
  omega

theorem valueMay_is (av : Option Addr) (n cv : Nat) (vb : Value) (v : Int) (b : Bool) (hb : isValueB n v = b) (w : World) (hn : n ≤ longest) :
    Calls Try.prog 26 #[.agg #[.slice av n cv, vb], .int .i64 v] w fun e w' => e = .returned (.bool b) ∧ w' = w.alloc (.cells #[.slice av n cv, vb] 31) := by
  have hb' : inB v 0 ((n : Int) - 1) = b := (inB_value n v).trans hb
  unfold longest at hn
  clear hb
  go_enter Try.func26, Try.ntmps26
  go_wp2_with (go_at_call 17; refine (in_is _ _ _ b hb' _).mono ?_; rintro e w' ⟨rfl, rfl⟩)
  go_ret
  exact ⟨rfl, rfl⟩

theorem classOf_any (values : List Int) (av : Option Addr) (cv : Nat) (vb : Value) (v : Int) (w : World) (hv : SlOf w 1 RInt (.slice av values.length cv) values) (h : isValueB values.length v = true) :
    Calls Try.prog 42 #[.agg #[.slice av values.length cv, vb], .int .i64 v] w fun e w' => e = .returned (.int .i64 (classAt values v)) ∧ w' = w.alloc (.cells #[.slice av values.length cv, vb] 31) := by
  obtain ⟨_, _, _, lv⟩ := hv.out
  unfold longest at lv
  obtain ⟨bb, off, rfl, hcell, hbb, v0, v1⟩ := classAt_cell hv v h
  have L := old_cell bb
  go_enter Try.func42, Try.ntmps42
  go_wp2
  go_ret
  exact ⟨rfl, rfl⟩
theorem classOf_is (values : List Int) (av : Option Addr) (cv : Nat) (vb : Value) (v : Int) (r : Int) (hr : classAt values v = r) (w : World) (hv : SlOf w 1 RInt (.slice av values.length cv) values) (h : isValueB values.length v = true) :
    Calls Try.prog 42 #[.agg #[.slice av values.length cv, vb], .int .i64 v] w fun e w' => e = .returned (.int .i64 r) ∧ w' = w.alloc (.cells #[.slice av values.length cv, vb] 31) := by
  rw [← hr]; exact classOf_any values av cv vb v w hv h
end Go.Proofs.Ytnghhhlcifpiaaa
