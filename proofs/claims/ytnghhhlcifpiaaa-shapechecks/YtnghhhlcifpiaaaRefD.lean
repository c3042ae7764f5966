/-
  The contract of the reference's 'spoilsFault': which error a list of spoils has (P1.5), where the machine may be.
-/
import Derived.Test.YtnghhhlcifpiaaaRefC
import Derived.Test.YtnghhhlcifpiaaaSpoils
import Derived.Deep.DeepCutAuto
import Derived.Deep.CutBlock
namespace Go.Proofs.Ytnghhhlcifpiaaa
open Go.RowKit
set_option linter.unusedVariables false

theorem giv_bounds {m0 m1 c n : Int} (h : givB m0 m1 c n = true) (h0 : m0 ≤ 10) (h1 : m1 ≤ 10) : 0 ≤ c ∧ c ≤ 1 ∧ 0 ≤ n ∧ n ≤ 9 := by
  simp only [givB, isClassB, Bool.and_eq_true, decide_eq_true_eq] at h
  obtain ⟨hc, hn⟩ := h
  unfold regsOf at hn
  split at hn <;> omega

set_option maxHeartbeats 8000000 in
theorem spoilsFault_is (m0 m1 : Int) (l : List Rg) (al : Option Addr) (cl : Nat) (w : World) (res : Int) (hres : spErr m0 m1 none l = res) (hl : SlOf w 2 RRg (.slice al l.length cl) l) (hm0 : 2 ≤ m0 ∧ m0 ≤ 10) (hm1 : 2 ≤ m1 ∧ m1 ≤ 10) :
    Calls Try.prog 40 #[.agg #[.int .i64 m0, .int .i64 m1], .slice al l.length cl] w fun e w' => e = .returned (.int .i64 res) ∧ Below w.heap.size w w' := by
  obtain ⟨_, _, _, la⟩ := hl.out
  unfold longest at la
  obtain ⟨W, hW⟩ : ∃ W, W = w.alloc (.cells #[.int .i64 m0, .int .i64 m1] 24) := ⟨_, rfl⟩
  have hbw : Below w.heap.size w W := by rw [hW]; exact (Below.refl _ _).alloc (Nat.le_refl _) _
  have zW : w.heap.size < W.heap.size := by rw [hW]; simp
  have t0 := top_at w #[.int .i64 m0, .int .i64 m1] 24
  have m0_0 : W.cell? ⟨w.heap.size, 0, none⟩ = some (.int .i64 m0) := by rw [hW]; exact t0 0
  have m0_1 : W.cell? ⟨w.heap.size, 1, none⟩ = some (.int .i64 m1) := by rw [hW]; exact t0 1
  have HS : Hid (∀ w', Below W.heap.size W w' → (fun w' => w'.cell? ⟨w.heap.size, 0, none⟩ = some (.int .i64 m0) ∧ w'.cell? ⟨w.heap.size, 1, none⟩ = some (.int .i64 m1) ∧ Below W.heap.size W w') w') := fun w' hh => ⟨(hh.cell (by simp; omega)).trans m0_0, (hh.cell (by simp; omega)).trans m0_1, hh⟩
  have HW : Hid (W = w.alloc (.cells #[.int .i64 m0, .int .i64 m1] 24)) := hW
  clear hW t0
  obtain ⟨ha0, ha1⟩ := hm0
  obtain ⟨hc0, hc1⟩ := hm1
  have j0 : IntKind.i64.wrap (m0 - 1) = m0 - 1 := by rw [IntKind.wrap_i64]; omega
  have j1 : IntKind.i64.wrap (m1 - 1) = m1 - 1 := by rw [IntKind.wrap_i64]; omega
  have HRES : Hid (spErr m0 m1 none l = res) := hres
  clear hres
  go_enter Try.func40, Try.ntmps40
  go_upto_region 1 with fail
  rw [← HW.out]
  go_wp2
  go_loopw [5] (fun i wr => ∃ k : Nat, k ≤ l.length ∧ i = .int .i64 k ∧ Below W.heap.size W wr ∧ Hid (∀ q, ahead l k = some q → givB m0 m1 q.cls q.n = true) ∧ Hid (spErr m0 m1 (ahead l k) (l.drop k) = res)) (fun i _ => l.length - (intOf i).toNat)
  case atStart => exact ⟨0, Nat.zero_le _, rfl, Below.refl _ _, (fun q hq => by cases hq), HRES.out⟩
  case round =>
    obtain ⟨k, hk, rfl, hbr, HP, HK⟩ := hrel
    have hbwr : Below w.heap.size w wr := hbw.trans (hbr.mono hbw.size)
    obtain ⟨f0, f1, _⟩ := HS.out _ hbr
    clear m0_0 m0_1
    by_cases hlt : k < l.length
    · have HK' : Hid (spErr m0 m1 (ahead l k) (l[k] :: l.drop (k + 1)) = res) := by rw [← List.drop_eq_getElem_cons hlt]; exact HK
      have HN : Hid (ahead l (k + 1) = some l[k]) := List.getElem?_eq_getElem hlt
      clear HK
      obtain ⟨b2, off2, rfl, hb2, c0, c1⟩ := rg_cells (hl.below hbwr fun _ _ h => h) k hlt
      generalize l[k] = r at *
      cases hcl : inB r.cls 0 1
      · have H : Hid (2 = res) := by
          show _ = _
          rw [← HK'.out]
          unfold spErr
          rw [if_pos]
          simp [inB] at hcl
          simp [givB, isClassB]
          omega
        have hin : inB 0 0 0 = true := by decide
        clear HK' HN
        go_wp2_with fail; go_quiet ((go_at_call 17; with_reducible (first | exact Calls.quiet_of_same (in_is _ _ _ _ hcl _) | exact Calls.quiet_of_same (in_is _ _ _ _ hin _))))
        go_wp2
        go_ret
        exact ⟨ret_int H.out, below_drewN hbwr _⟩
      · have hcc : r.cls = 0 ∨ r.cls = 1 := by simp [inB] at hcl; omega
        clear hcl
        rcases hcc with hrc | hrc
        · have hcl : inB 0 0 1 = true := by decide
          have hgi : inB r.n 0 (m0 - 1) = givB m0 m1 0 r.n := inB_giv m0 m1 0 r.n (by simp)
          rw [hrc] at c0
          cases hin : inB r.n 0 (m0 - 1)
          · have H : Hid (2 = res) := by
              show _ = _
              rw [← HK'.out]
              unfold spErr
              rw [if_pos (by rw [hrc, ← hgi, hin])]
            clear HK' HN hrc hgi
            go_wp2_with fail; go_quiet ((go_at_call 17; with_reducible (first | exact Calls.quiet_of_same (in_is _ _ _ _ hcl _) | exact Calls.quiet_of_same (in_is _ _ _ _ hin _))))
            go_wp2
            go_ret
            exact ⟨ret_int H.out, below_drewN hbwr _⟩
          · have HGV : Hid (givB m0 m1 r.cls r.n = true) := by show _ = _; rw [hrc, ← hgi, hin]
            clear hgi
            by_cases hk0 : k = 0
            · subst hk0
              have H : Hid (spErr m0 m1 (ahead l (0 + 1)) (l.drop (0 + 1)) = res) := by
                show _ = _
                rw [← HK'.out, HN.out]
                conv => rhs; unfold spErr
                rw [if_neg (by simp [HGV.out])]
                rfl
              simp only [Nat.zero_mul, Nat.add_zero] at c0 c1
              clear HK'
              go_wp2_with fail; go_quiet ((go_at_call 17; with_reducible (first | exact Calls.quiet_of_same (in_is _ _ _ _ hcl _) | exact Calls.quiet_of_same (in_is _ _ _ _ hin _))))
              go_wp2_with fail
              go_quiet (fail)
              go_wp2
              go_roundw
              case rel => exact ⟨0 + 1, by omega, by go_num, below_drewN hbr _, fun q hq => by rw [HN.out] at hq; cases hq; exact HGV.out, H⟩
              case measure => simp [intOf]; omega
            · have HA : Hid (ahead l k = some (l[(k - 1)]'(by omega))) := ahead_of l k (by omega) (by omega)
              have hgq := HP.out _ HA.out
              obtain ⟨b2', off2', hal, hb2', q0, q1⟩ := rg_cells (hl.below hbwr fun _ _ h => h) (k - 1) (by omega)
              simp only [Option.some.injEq, Addr.mk.injEq] at hal
              obtain ⟨rfl, rfl, _⟩ := hal
              generalize l[(k - 1)]'(by omega) = q at *
              have i0 : (0 : Int) ≤ (k : Int) - 1 := by omega
              have i1 : (k : Int) - 1 < (l.length : Int) := by omega
              have i2 : (0 : Int) < (k : Int) := by omega
              have i4 : 0 < k := by omega
              have i6 : 1 ≤ k := by omega
              have i7 : (1 : Int) ≤ (k : Int) := by omega
              have i8 : (k : Int) < (l.length : Int) + 1 := by omega
              have i9 : k - 1 < l.length := by omega
              have i10 : k < l.length + 1 := by omega
              have j1 : IntKind.i64.wrap ((k : Int) - 1) = (k : Int) - 1 := by rw [IntKind.wrap_i64]; omega
              have i5 : decide ((0 : Int) < (k : Int)) = true := by simp; omega
              obtain ⟨bq0, bq1, bq2, bq3⟩ := giv_bounds hgq ha1 hc1
              obtain ⟨br0, br1, br2, br3⟩ := giv_bounds HGV.out ha1 hc1
              have w1 : IntKind.i64.wrap (100 * q.cls) = 100 * q.cls := by rw [IntKind.wrap_i64]; omega
              have w2 : IntKind.i64.wrap (100 * q.cls + q.n) = 100 * q.cls + q.n := by rw [IntKind.wrap_i64]; omega
              have w3 : IntKind.i64.wrap (r.n) = r.n := by rw [IntKind.wrap_i64]; omega
              have HBH : behB 0 r.n q.cls q.n = decide (100 * q.cls + q.n < r.n) := by
                rw [Bool.eq_iff_iff]
                simp only [behB, decide_eq_true_eq]
                omega
              have hrc' := hrc
              clear hgq bq0 bq1 bq2 bq3 br0 br1 br2 br3
              by_cases hq : 100 * q.cls + q.n < r.n
              · have HGB : behB r.cls r.n q.cls q.n = true := by rw [hrc, HBH]; simpa using hq
                have H : Hid (spErr m0 m1 (ahead l (k + 1)) (l.drop (k + 1)) = res) := by
                  show _ = _
                  rw [← HK'.out, HA.out, HN.out]
                  conv => rhs; unfold spErr
                  rw [if_neg (by simp [HGV.out])]
                  simp [HGB]
                clear HK' HBH HA HGB hrc'
                have hq' : ¬ r.n ≤ 100 * q.cls + q.n := by omega
                clear hq
                go_wp2_with fail; go_quiet ((go_at_call 17; with_reducible (first | exact Calls.quiet_of_same (in_is _ _ _ _ hcl _) | exact Calls.quiet_of_same (in_is _ _ _ _ hin _))))
                go_wp2_with fail
                go_quiet (fail)
                go_wp2
                go_roundw
                case rel => exact ⟨k + 1, by omega, by go_num, below_drewN hbr _, fun q hq => by rw [HN.out] at hq; cases hq; exact HGV.out, H⟩
                case measure => simp [intOf]; omega
              · have HGB : behB r.cls r.n q.cls q.n = false := by rw [hrc, HBH]; simpa using hq
                have H : Hid (4 = res) := by
                  show _ = _
                  rw [← HK'.out, HA.out]
                  unfold spErr
                  rw [if_neg (by simp [HGV.out])]
                  simp [HGB]
                clear HK' HBH HA HN HGB hrc'
                have hq' : r.n ≤ 100 * q.cls + q.n := by omega
                clear hq
                go_wp2_with fail; go_quiet ((go_at_call 17; with_reducible (first | exact Calls.quiet_of_same (in_is _ _ _ _ hcl _) | exact Calls.quiet_of_same (in_is _ _ _ _ hin _))))
                go_wp2_with fail
                go_quiet (fail)
                go_wp2
                go_ret
                exact ⟨ret_int H.out, by first | exact below_drewN hbwr _ | exact below_drewN (below_drewN hbwr _) _⟩
        · have hcl : inB 1 0 1 = true := by decide
          have hgi : inB r.n 0 (m1 - 1) = givB m0 m1 1 r.n := inB_giv m0 m1 1 r.n (by simp)
          rw [hrc] at c0
          cases hin : inB r.n 0 (m1 - 1)
          · have H : Hid (2 = res) := by
              show _ = _
              rw [← HK'.out]
              unfold spErr
              rw [if_pos (by rw [hrc, ← hgi, hin])]
            clear HK' HN hrc hgi
            go_wp2_with fail; go_quiet ((go_at_call 17; with_reducible (first | exact Calls.quiet_of_same (in_is _ _ _ _ hcl _) | exact Calls.quiet_of_same (in_is _ _ _ _ hin _))))
            go_wp2
            go_ret
            exact ⟨ret_int H.out, below_drewN hbwr _⟩
          · have HGV : Hid (givB m0 m1 r.cls r.n = true) := by show _ = _; rw [hrc, ← hgi, hin]
            clear hgi
            by_cases hk0 : k = 0
            · subst hk0
              have H : Hid (spErr m0 m1 (ahead l (0 + 1)) (l.drop (0 + 1)) = res) := by
                show _ = _
                rw [← HK'.out, HN.out]
                conv => rhs; unfold spErr
                rw [if_neg (by simp [HGV.out])]
                rfl
              simp only [Nat.zero_mul, Nat.add_zero] at c0 c1
              clear HK'
              go_wp2_with fail; go_quiet ((go_at_call 17; with_reducible (first | exact Calls.quiet_of_same (in_is _ _ _ _ hcl _) | exact Calls.quiet_of_same (in_is _ _ _ _ hin _))))
              go_wp2_with fail
              go_quiet (fail)
              go_wp2
              go_roundw
              case rel => exact ⟨0 + 1, by omega, by go_num, below_drewN hbr _, fun q hq => by rw [HN.out] at hq; cases hq; exact HGV.out, H⟩
              case measure => simp [intOf]; omega
            · have HA : Hid (ahead l k = some (l[(k - 1)]'(by omega))) := ahead_of l k (by omega) (by omega)
              have hgq := HP.out _ HA.out
              obtain ⟨b2', off2', hal, hb2', q0, q1⟩ := rg_cells (hl.below hbwr fun _ _ h => h) (k - 1) (by omega)
              simp only [Option.some.injEq, Addr.mk.injEq] at hal
              obtain ⟨rfl, rfl, _⟩ := hal
              generalize l[(k - 1)]'(by omega) = q at *
              have i0 : (0 : Int) ≤ (k : Int) - 1 := by omega
              have i1 : (k : Int) - 1 < (l.length : Int) := by omega
              have i2 : (0 : Int) < (k : Int) := by omega
              have i4 : 0 < k := by omega
              have i6 : 1 ≤ k := by omega
              have i7 : (1 : Int) ≤ (k : Int) := by omega
              have i8 : (k : Int) < (l.length : Int) + 1 := by omega
              have i9 : k - 1 < l.length := by omega
              have i10 : k < l.length + 1 := by omega
              have j1 : IntKind.i64.wrap ((k : Int) - 1) = (k : Int) - 1 := by rw [IntKind.wrap_i64]; omega
              have i5 : decide ((0 : Int) < (k : Int)) = true := by simp; omega
              obtain ⟨bq0, bq1, bq2, bq3⟩ := giv_bounds hgq ha1 hc1
              obtain ⟨br0, br1, br2, br3⟩ := giv_bounds HGV.out ha1 hc1
              have w1 : IntKind.i64.wrap (100 * q.cls) = 100 * q.cls := by rw [IntKind.wrap_i64]; omega
              have w2 : IntKind.i64.wrap (100 * q.cls + q.n) = 100 * q.cls + q.n := by rw [IntKind.wrap_i64]; omega
              have w3 : IntKind.i64.wrap (100 + r.n) = 100 + r.n := by rw [IntKind.wrap_i64]; omega
              have HBH : behB 1 r.n q.cls q.n = decide (100 * q.cls + q.n < 100 + r.n) := by
                rw [Bool.eq_iff_iff]
                simp only [behB, decide_eq_true_eq]
                omega
              have hrc' := hrc
              clear hgq bq0 bq1 bq2 bq3 br0 br1 br2 br3
              by_cases hq : 100 * q.cls + q.n < 100 + r.n
              · have HGB : behB r.cls r.n q.cls q.n = true := by rw [hrc, HBH]; simpa using hq
                have H : Hid (spErr m0 m1 (ahead l (k + 1)) (l.drop (k + 1)) = res) := by
                  show _ = _
                  rw [← HK'.out, HA.out, HN.out]
                  conv => rhs; unfold spErr
                  rw [if_neg (by simp [HGV.out])]
                  simp [HGB]
                clear HK' HBH HA HGB hrc'
                have hq' : ¬ 100 + r.n ≤ 100 * q.cls + q.n := by omega
                clear hq
                go_wp2_with fail; go_quiet ((go_at_call 17; with_reducible (first | exact Calls.quiet_of_same (in_is _ _ _ _ hcl _) | exact Calls.quiet_of_same (in_is _ _ _ _ hin _))))
                go_wp2_with fail
                go_quiet (fail)
                go_wp2
                go_roundw
                case rel => exact ⟨k + 1, by omega, by go_num, below_drewN hbr _, fun q hq => by rw [HN.out] at hq; cases hq; exact HGV.out, H⟩
                case measure => simp [intOf]; omega
              · have HGB : behB r.cls r.n q.cls q.n = false := by rw [hrc, HBH]; simpa using hq
                have H : Hid (4 = res) := by
                  show _ = _
                  rw [← HK'.out, HA.out]
                  unfold spErr
                  rw [if_neg (by simp [HGV.out])]
                  simp [HGB]
                clear HK' HBH HA HN HGB hrc'
                have hq' : 100 + r.n ≤ 100 * q.cls + q.n := by omega
                clear hq
                go_wp2_with fail; go_quiet ((go_at_call 17; with_reducible (first | exact Calls.quiet_of_same (in_is _ _ _ _ hcl _) | exact Calls.quiet_of_same (in_is _ _ _ _ hin _))))
                go_wp2_with fail
                go_quiet (fail)
                go_wp2
                go_ret
                exact ⟨ret_int H.out, by first | exact below_drewN hbwr _ | exact below_drewN (below_drewN hbwr _) _⟩
    · have H : Hid (0 = res) := by
        show _ = _
        rw [← HK.out, List.drop_of_length_le (by omega)]
        cases (ahead l k) <;> rfl
      clear HK
      go_wp2
      go_ret
      exact ⟨ret_int H.out, hbwr⟩
end Go.Proofs.Ytnghhhlcifpiaaa
