/-
  Numbers that are mixed into one (plain), and the contracts of 'mixed', 'Mix' and of the reference's 'Mixed'.
-/
import Derived.Test.YtoalfffecboahabOwn
import Derived.Test.YtoalfffecboahabMach
import Derived.Deep.Upon
import Derived.Deep.QuietTactic
import Derived.BigQuiet
namespace Go.Proofs.Ytoalfffecboahab
open Go.RowKit
set_option linter.unusedVariables false

def mixN (m n : Int) : Int := (31 * m + n) % 1000003
def mixL (m : Int) (l : List Int) : Int := l.foldl mixN m
theorem mixN_bd (m n : Int) : 0 ≤ mixN m n ∧ mixN m n < 1000003 := by unfold mixN; omega
theorem mixL_bd : ∀ (l : List Int) (m : Int), 0 ≤ m → m < 1000003 → 0 ≤ mixL m l ∧ mixL m l < 1000003
  | [], m, h0, h1 => ⟨h0, h1⟩
  | n :: l, m, _, _ => mixL_bd l (mixN m n) (mixN_bd m n).1 (mixN_bd m n).2
theorem mixL_app (m : Int) (a b : List Int) : mixL m (a ++ b) = mixL (mixL m a) b := List.foldl_append
theorem mixL_drop (m : Int) (l : List Int) (k : Nat) (h : k < l.length) : mixL m (l.drop k) = mixL (mixN m (l.getD k 0)) (l.drop (k + 1)) := by
  have hd : l.drop k = l.getD k 0 :: l.drop (k + 1) := by
    rw [List.drop_eq_getElem_cons h, List.getD_eq_getElem?_getD, List.getElem?_eq_getElem h]
    rfl
  rw [hd]
  rfl
theorem mixL_end (m : Int) (l : List Int) (k : Nat) (h : l.length ≤ k) : mixL m (l.drop k) = m := by rw [List.drop_eq_nil_of_le h]; rfl
theorem tmod_neg (n : Int) (h : n < 0) : n.tmod 1000003 = -((-n) % 1000003) := by
  have := Int.neg_tmod (-n) 1000003
  rw [Int.neg_neg] at this
  rw [this, Int.tmod_eq_emod_of_nonneg (by omega)]
theorem tmod_cases (n : Int) : ∃ r, n.tmod 1000003 = r ∧ -1000003 < r ∧ r < 1000003 ∧ (∀ x : Int, (x + r) % 1000003 = (x + n) % 1000003) := by
  by_cases h : n < 0
  · refine ⟨_, tmod_neg n h, by omega, by omega, fun x => by omega⟩
  · exact ⟨_, Int.tmod_eq_emod_of_nonneg (by omega), by omega, by omega, fun x => by omega⟩

theorem ru_at {w : World} {a : Option Addr} {n cap : Nat} {l : List Int} (h : SlOf w 1 RInt (.slice a n cap) l) (k : Nat) (h1 : k < l.length) : ∃ b off, a = some ⟨b, off, none⟩ ∧ b < w.heap.size ∧ w.cell? ⟨b, off + k, none⟩ = some (.int .i64 (l.getD k 0)) := by
  obtain ⟨b, off, cs, rfl, hl, hR, hc⟩ := h.at k h1
  unfold RInt at hR
  subst hR
  have hc0 := hc 0 (by simp)
  simp only [Nat.mul_one, Nat.add_zero, List.getElem_cons_zero] at hc0
  refine ⟨b, off, rfl, block_lt hc0, ?_⟩
  rw [hc0, List.getD_eq_getElem?_getD, List.getElem?_eq_getElem (by omega)]
  rfl

set_option maxHeartbeats 2000000 in
theorem mixed_any (l : List Int) (a : Option Addr) (n c : Nat) (m r : Int) (w : World) (hn : l.length = n) (h1 : SlOf w 1 RInt (.slice a n c) l) (hm : 0 ≤ m) (hm' : m < 1000003) (hr : mixL m l = r) :
    Calls Try.prog 7 #[.int .i64 m, .slice a n c] w fun e w' => e = .returned (.int .i64 r) ∧ w' = w := by
  subst hn
  have lb : l.length ≤ longest := by
    obtain ⟨_, _, _, h⟩ := h1.out
    exact h
  unfold longest at lb
  have HA : Hid (SlOf w 1 RInt (.slice a l.length c) l) := h1
  have HR : Hid (mixL m l = r) := hr
  clear h1 hr
  go_enter Try.func7, Try.ntmps7
  go_wp2_with fail
  go_loopw [9, 0] (fun i x wr => ∃ (k : Nat) (y : Int), k ≤ l.length ∧ i = .int .i64 k ∧ x = .int .i64 y ∧ 0 ≤ y ∧ y < 1000003 ∧ wr = w ∧ Hid (mixL y (l.drop k) = r)) (fun i _ _ => l.length - (intOf i).toNat)
  case atStart => exact ⟨0, m, Nat.zero_le _, rfl, rfl, hm, hm', rfl, HR.out⟩
  case round =>
    obtain ⟨k, y, hk, rfl, rfl, hy, hy', rfl, HI⟩ := hrel
    by_cases hlt : k < l.length
    · obtain ⟨b1, o1, rfl, hb1, e1⟩ := ru_at HA.out k hlt
      have hI := HI.out
      rw [mixL_drop _ _ _ hlt] at hI
      have HN : Hid (mixL (mixN y (l.getD k 0)) (l.drop (k + 1)) = r) := hI
      clear hI HI
      generalize l.getD k 0 = x at *
      obtain ⟨q, hq, hq0, hq1, hq2⟩ := tmod_cases x
      have HQ : Hid ((31 * y + q + 1000003) % 1000003 = mixN y x) := by
        show _ = _
        have := hq2 (31 * y)
        unfold mixN
        omega
      clear hq2
      go_wp2
      go_roundw
      case rel => exact ⟨k + 1, mixN y x, by omega, by go_num, by rw [HQ.out], (mixN_bd _ _).1, (mixN_bd _ _).2, trivial, HN.out⟩
      case measure => simp [intOf]; omega
    · have H : Hid (y = r) := by
        show _ = _
        rw [← HI.out, mixL_end _ _ _ (by omega)]
      clear HI
      go_wp2
      go_ret
      exact ⟨ret_int H.out, rfl⟩

theorem mix_any (l : List Int) (a : Option Addr) (n c : Nat) (r : Int) (w : World) (hn : l.length = n) (h1 : SlOf w 1 RInt (.slice a n c) l) (hr : mixL 7 l = r) :
    Calls Try.prog 8 #[.slice a n c] w fun e w' => e = .returned (.int .i64 r) ∧ w' = w := by
  have HC := mixed_any l a n c 7 r w hn h1 (by decide) (by decide) hr
  clear hn h1 hr
  go_enter Try.func8, Try.ntmps8
  go_wp2_with fail
  refine HC.mono ?_
  clear HC
  rintro e w' ⟨rfl, rfl⟩
  go_wp2
  go_ret
  exact ⟨rfl, rfl⟩
end Go.Proofs.Ytoalfffecboahab
