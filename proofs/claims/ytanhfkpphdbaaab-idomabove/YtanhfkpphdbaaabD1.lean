/-
  The contracts of the statements' own 'has' and 'dominated'.
-/
import Derived.Test.YtanhfkpphdbaaabF8d
namespace Go.Proofs.Ytanhfkpphdbaaab
open Go.RowKit
set_option linter.unusedVariables false

set_option maxRecDepth 8000 in
set_option maxHeartbeats 2000000 in
theorem dominated_any (n : Nat) (idom : Nat → Int) (vo vd : Value) (ad : Option Addr) (cd : Nat) (a b0 : Int) (w : World) (hd : SlOf w 1 RInt (.slice ad n cd) (fnL n idom)) (hk : ∀ i, i < n → -1 ≤ idom i ∧ idom i < n) (hb0 : -1 ≤ b0) (hb1 : b0 < n) (hn : n ≤ 1000) :
    Calls Try.prog 10 #[.agg #[vo, .slice ad n cd, vd], .int .i64 a, .int .i64 b0] w fun e w' => e = .returned (.bool (domG idom (n + 1) a b0)) ∧ Below w.heap.size w w' := by
  have HK : Hid (∀ i, i < n → -1 ≤ idom i ∧ idom i < n) := hk
  have HD : Hid (SlOf w 1 RInt (.slice ad n cd) (fnL n idom)) := hd
  have HB : Hid (-1 ≤ b0 ∧ b0 < n) := ⟨hb0, hb1⟩
  clear hk hd hb0 hb1
  generalize hres : domG idom (n + 1) a b0 = res
  have HR : Hid (domG idom (n + 1) a b0 = res) := hres
  clear hres
  obtain ⟨W1, hW1⟩ : ∃ W1, W1 = w.alloc (.cells #[vo, .slice ad n cd, vd] 33) := ⟨_, rfl⟩
  have hbw : Below w.heap.size w W1 := by rw [hW1]; exact (Below.refl _ _).alloc (Nat.le_refl _) _
  have d2 : W1.cell? ⟨w.heap.size, 1, none⟩ = some (.slice ad n cd) := by rw [hW1]; simp
  have hz : w.heap.size < W1.heap.size := by rw [hW1]; simp
  have HW : Hid (W1 = w.alloc (.cells #[vo, .slice ad n cd, vd] 33)) := hW1
  clear hW1
  go_enter Try.func10, Try.ntmps10
  go_wp2_with fail
  rw [← HW.out]
  go_loopw [7, 2] (fun i x wr => ∃ (b : Int) (k : Nat), i = .int .i64 k ∧ k ≤ n + 1 ∧ x = .int .i64 b ∧ Below W1.heap.size W1 wr ∧ Hid (-1 ≤ b ∧ b < n ∧ domG idom (n + 1 - k) a b = res)) (fun i _ _ => n + 1 - (intOf i).toNat)
  case atStart => exact ⟨b0, 0, rfl, by omega, rfl, Below.refl _ _, HB.out.1, HB.out.2, HR.out⟩
  case round =>
    obtain ⟨b, k, rfl, hkn, rfl, hbr, HI⟩ := hrel
    have f2 := (hbr.cell (p := ⟨w.heap.size, 1, none⟩) hz).trans d2
    have hbw' : Below w.heap.size w wr := hbw.trans (hbr.mono (Nat.le_of_lt hz))
    by_cases hlt : k ≤ n
    · have el : decide ((k : Int) ≤ (n : Int)) = true := by simp; omega
      have hsub : n + 1 - k = n - k + 1 := by omega
      have hI3 := HI.out.2.2
      rw [hsub] at hI3
      simp only [domG] at hI3
      by_cases hm : b < 0
      · have eb : decide (0 ≤ b) = false := by simp; omega
        have H : Hid (false = res) := by show _ = _; rw [if_pos hm] at hI3; exact hI3
        clear hI3 HI hm hlt
        go_wp2
        go_ret
        exact ⟨ret_bool H.out, hbw'⟩
      · have eb : decide (0 ≤ b) = true := by simp; omega
        rw [if_neg hm] at hI3
        by_cases he : a = b
        · have e2 : (a == b) = true := by simp [he]
          have H : Hid (true = res) := by show _ = _; rw [if_pos he] at hI3; exact hI3
          clear hI3 HI hm hlt he
          go_wp2
          go_ret
          exact ⟨ret_bool H.out, hbw'⟩
        · have e2 : (a == b) = false := by simp [he]
          rw [if_neg he] at hI3
          have ib0 : 0 ≤ b := by omega
          have ib1 := HI.out.2.1
          obtain ⟨bb, off, rfl, hbb, hc⟩ := ints_at HD.out b ib0 (by rw [fnL_length]; exact ib1)
          rw [fnL_getD _ _ _ (by omega)] at hc
          have c1 := (hbw'.cell (p := ⟨bb, off + b.toNat, none⟩) hbb).trans hc
          have hup := HK.out b.toNat (by omega)
          have HN : Hid (-1 ≤ idom b.toNat ∧ idom b.toNat < n ∧ domG idom (n + 1 - (k + 1)) a (idom b.toNat) = res) := ⟨hup.1, hup.2, by rw [← hI3, show n + 1 - (k + 1) = n - k by omega]⟩
          clear hm he hup hc hI3 HI
          generalize idom b.toNat = b2 at *
          go_wp2
          go_roundw
          case rel => exact ⟨_, k + 1, by go_num, by omega, rfl, hbr, HN⟩
          case measure => simp [intOf]; omega
    · have el : decide ((k : Int) ≤ (n : Int)) = false := by simp; omega
      have H : Hid (false = res) := by
        show _ = _
        rw [← HI.out.2.2, show n + 1 - k = 0 by omega]
        rfl
      have hlt2 : ¬ (k : Int) ≤ (n : Int) := by omega
      clear HI hkn
      go_wp2
      go_ret
      exact ⟨ret_bool H.out, hbw'⟩
theorem dominated_is (n : Nat) (idom : Nat → Int) (vo vd : Value) (ad : Option Addr) (cd : Nat) (a b0 : Int) (r : Bool) (hr : domG idom (n + 1) a b0 = r) (w : World) (hd : SlOf w 1 RInt (.slice ad n cd) (fnL n idom)) (hk : ∀ i, i < n → -1 ≤ idom i ∧ idom i < n) (hb0 : -1 ≤ b0) (hb1 : b0 < n) (hn : n ≤ 1000) :
    Calls Try.prog 10 #[.agg #[vo, .slice ad n cd, vd], .int .i64 a, .int .i64 b0] w fun e w' => e = .returned (.bool r) ∧ Below w.heap.size w w' := by
  rw [← hr]; exact dominated_any n idom vo vd ad cd a b0 w hd hk hb0 hb1 hn
end Go.Proofs.Ytanhfkpphdbaaab
