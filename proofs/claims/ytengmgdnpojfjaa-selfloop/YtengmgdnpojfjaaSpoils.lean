/-
  The contract of 'checker.spoils': which error a list of spoils has (P1.5), for whatever machine and list.
-/
import Derived.Test.YtengmgdnpojfjaaOpnd
namespace Go.Proofs.Ytengmgdnpojfjaa
open Go.RowKit
set_option linter.unusedVariables false

def spErr (m0 m1 : Int) : Option Rg → List Rg → Int
  | _, [] => 0
  | p, r :: l => if givB m0 m1 r.cls r.n = false then 2 else match p with
    | some q => if behB r.cls r.n q.cls q.n = false then 4 else spErr m0 m1 (some r) l
    | none => spErr m0 m1 (some r) l

theorem rg_cells {w : World} {aa : Option Addr} {ca n : Nat} {l : List Rg} (ha : SlOf w 2 RRg (.slice aa n ca) l) (i : Nat) (hi : i < l.length) :
    ∃ b off, aa = some ⟨b, off, none⟩ ∧ b < w.heap.size ∧ w.cell? ⟨b, off + i * 2, none⟩ = some (.int .i64 l[i].cls) ∧ w.cell? ⟨b, off + i * 2 + 1, none⟩ = some (.int .i64 l[i].n) := by
  obtain ⟨b, off, cs, h1, h2, h3, h4⟩ := ha.at i hi
  unfold RRg at h3
  subst h3
  have c0 := h4 0 (by simp)
  have c1 := h4 1 (by simp)
  simp at c0 c1
  exact ⟨b, off, h1, block_lt c0, c0, c1⟩

theorem behind_is (c1 n1 c2 n2 : Int) (b : Bool) (h : behB c1 n1 c2 n2 = b) (w : World) :
    Calls Try.prog 80 #[.agg #[.int .i64 c1, .int .i64 n1], .agg #[.int .i64 c2, .int .i64 n2]] w fun e w' => e = .returned (.bool b) ∧ Below w.heap.size w w' := by
  rw [← h]; exact behind_any c1 n1 c2 n2 w

/-- What stands ahead of place k. -/
def ahead {α : Type} (l : List α) : Nat → Option α
  | 0 => none
  | k + 1 => l[k]?

theorem ahead_of {α : Type} (l : List α) (k : Nat) (h : k < l.length) (h0 : 0 < k) : ahead l k = some (l[(k - 1)]'(by omega)) := by
  cases k with
  | zero => omega
  | succ k =>
    exact List.getElem?_eq_getElem (by omega)

set_option maxHeartbeats 1000000 in
theorem spoils_any (vv vb : Value) (m0 m1 : Int) (l : List Rg) (al : Option Addr) (cl : Nat) (w : World) (hl : SlOf w 2 RRg (.slice al l.length cl) l) :
    Calls Try.prog 76 #[.agg #[vv, vb, .int .i64 m0, .int .i64 m1], .slice al l.length cl] w fun e w' => e = .returned (.int .i64 (spErr m0 m1 none l)) ∧ Below w.heap.size w w' := by
  obtain ⟨_, _, _, la⟩ := hl.out
  unfold longest at la
  obtain ⟨W1, hW1⟩ : ∃ W1, W1 = w.alloc (.cells #[vv, vb, .int .i64 m0, .int .i64 m1] 84) := ⟨_, rfl⟩
  have hbw1 : Below w.heap.size w W1 := by rw [hW1]; exact (Below.refl _ _).alloc (Nat.le_refl _) _
  have hz1 : W1.heap.size = w.heap.size + 1 := by rw [hW1]; simp
  have d0 : W1.cell? ⟨w.heap.size, 0, none⟩ = some vv := by rw [hW1]; simp
  have d1 : W1.cell? ⟨w.heap.size, 1, none⟩ = some vb := by rw [hW1]; simp
  have d2 : W1.cell? ⟨w.heap.size, 2, none⟩ = some (.int .i64 m0) := by rw [hW1]; simp
  have d3 : W1.cell? ⟨w.heap.size, 3, none⟩ = some (.int .i64 m1) := by rw [hW1]; simp
  have HW : Hid (W1 = w.alloc (.cells #[vv, vb, .int .i64 m0, .int .i64 m1] 84)) := hW1
  have HZ : Hid (W1.heap.size = w.heap.size + 1) := hz1
  clear hW1 hz1
  go_enter Try.func76, Try.ntmps76
  go_wp2
  go_loopw [9] (fun i wr => ∃ k : Nat, k ≤ l.length ∧ i = .int .i64 k ∧ Below (w.heap.size + 1) W1 wr ∧ w.heap.size < wr.heap.size ∧ Hid (spErr m0 m1 (ahead l k) (l.drop k) = spErr m0 m1 none l)) (fun i _ => l.length - (intOf i).toNat)
  case atStart => exact ⟨0, Nat.zero_le _, rfl, by rw [HW.out]; exact Below.refl _ _, by simp, rfl⟩
  case round =>
    obtain ⟨k, hk, rfl, hbr, hs, HK⟩ := hrel
    have hbwr : Below w.heap.size w wr := hbw1.trans (hbr.mono (by omega))
    have f0 := (hbr.cell (p := ⟨w.heap.size, 0, none⟩) (by simp)).trans d0
    have f1 := (hbr.cell (p := ⟨w.heap.size, 1, none⟩) (by simp)).trans d1
    have f2 := (hbr.cell (p := ⟨w.heap.size, 2, none⟩) (by simp)).trans d2
    have f3 := (hbr.cell (p := ⟨w.heap.size, 3, none⟩) (by simp)).trans d3
    have hwne : w.heap.size ≠ wr.heap.size := by omega
    clear d0 d1 d2 d3
    by_cases hlt : k < l.length
    · have HK' : Hid (spErr m0 m1 (ahead l k) (l[k] :: l.drop (k + 1)) = spErr m0 m1 none l) := by rw [← List.drop_eq_getElem_cons hlt]; exact HK
      have HN : Hid (ahead l (k + 1) = some l[k]) := List.getElem?_eq_getElem hlt
      clear HK
      obtain ⟨b2, off2, rfl, hb2, c0, c1⟩ := rg_cells (hl.below hbwr fun _ _ h => h) k hlt
      generalize l[k] = r at *
      cases hg : givB m0 m1 r.cls r.n
      · have H : Hid (2 = spErr m0 m1 none l) := by
          show _ = _
          rw [← HK'.out]
          unfold spErr
          rw [if_pos hg]
        clear HK' HN
        go_wp2_with (go_at_call 79; refine (givable_is _ _ _ _ _ _ false hg _).mono ?_; rintro e w1 ⟨rfl, hb1⟩)
        go_ret
        exact ⟨ret_int H.out, (hbwr.alloc (by omega) _).trans (hb1.mono (by simp; omega))⟩
      · have hne2 : b2 ≠ wr.heap.size := by omega
        by_cases hk0 : k = 0
        · subst hk0
          have H : Hid (spErr m0 m1 (ahead l (0 + 1)) (l.drop (0 + 1)) = spErr m0 m1 none l) := by
            show _ = _
            rw [← HK'.out, HN.out]
            conv => rhs; unfold spErr
            rw [if_neg (by simp [hg])]
            rfl
          clear HK' HN
          simp only [Nat.zero_mul, Nat.add_zero] at c0 c1
          go_wp2_with (go_at_call 79; refine (givable_is _ _ _ _ _ _ true hg _).mono ?_; rintro e w1 ⟨rfl, hb1⟩)
          have hz1 := hb1.size
          simp at hz1
          go_quiet (fail)
          go_wp2
          go_roundw
          case rel => exact ⟨0 + 1, by omega, by go_num, below_drewN (hbr.alloc (by omega) _ |>.trans (hb1.mono (by simp; omega))) _, by simp; omega, H⟩
          case measure => simp [intOf]; omega
        · have HA : Hid (ahead l k = some (l[(k - 1)]'(by omega))) := ahead_of l k (by omega) (by omega)
          obtain ⟨b2', off2', hal, hb2', q0, q1⟩ := rg_cells (hl.below hbwr fun _ _ h => h) (k - 1) (by omega)
          simp only [Option.some.injEq, Addr.mk.injEq] at hal
          obtain ⟨rfl, rfl, _⟩ := hal
          generalize l[(k - 1)]'(by omega) = q at *
          have i0 : (0 : Int) ≤ (k : Int) - 1 := by omega
          have i1 : (k : Int) - 1 < (l.length : Int) := by omega
          have i2 : (0 : Int) < (k : Int) := by omega
          have i3 : (k : Int) < (l.length : Int) := by omega
          have i4 : 0 < k := by omega
          have i6 : 1 ≤ k := by omega
          have i7 : (1 : Int) ≤ (k : Int) := by omega
          have i8 : (k : Int) < (l.length : Int) + 1 := by omega
          have i9 : k - 1 < l.length := by omega
          have i10 : k < l.length + 1 := by omega
          have j1 : IntKind.i64.wrap ((k : Int) - 1) = (k : Int) - 1 := by rw [IntKind.wrap_i64]; omega
          have i5 : decide ((0 : Int) < (k : Int)) = true := by simp; omega
          cases hq : behB r.cls r.n q.cls q.n
          · have H : Hid (4 = spErr m0 m1 none l) := by
              show _ = _
              rw [← HK'.out, HA.out]
              unfold spErr
              rw [if_neg (by simp [hg])]
              simp [hq]
            clear HK' HN HA
            go_wp2_with (go_at_call 79; refine (givable_is _ _ _ _ _ _ true hg _).mono ?_; rintro e w1 ⟨rfl, hb1⟩)
            have hz1 := hb1.size
            simp at hz1
            have s0 : w1.cell? ⟨wr.heap.size, 0, none⟩ = some (.int .i64 r.cls) := by rw [hb1.cell (by simp)]; simp
            have s1 : w1.cell? ⟨wr.heap.size, 1, none⟩ = some (.int .i64 r.n) := by rw [hb1.cell (by simp)]; simp
            have s2 : w1.cell? ⟨b2, off2 + (k - 1) * 2, none⟩ = some (.int .i64 q.cls) := by rw [hb1.cell (by simp; omega), World.cell?_alloc_some _ _ _ (by rw [q0]; rfl)]; exact q0
            have s3 : w1.cell? ⟨b2, off2 + (k - 1) * 2 + 1, none⟩ = some (.int .i64 q.n) := by rw [hb1.cell (by simp; omega), World.cell?_alloc_some _ _ _ (by rw [q1]; rfl)]; exact q1
            have hbW : Below (w.heap.size + 1) W1 w1 := (hbr.alloc (by omega) _).trans (hb1.mono (by simp; omega))
            have t1 : wr.heap.size < w1.heap.size := by omega
            have t2 : b2 < w1.heap.size := by omega
            clear hb1
            go_region_held3 (fun wx => wx.cell? ⟨wr.heap.size, 0, none⟩ = some (.int .i64 r.cls) ∧ wx.cell? ⟨wr.heap.size, 1, none⟩ = some (.int .i64 r.n) ∧ wx.cell? ⟨b2, off2 + (k - 1) * 2, none⟩ = some (.int .i64 q.cls) ∧ wx.cell? ⟨b2, off2 + (k - 1) * 2 + 1, none⟩ = some (.int .i64 q.n) ∧ wr.heap.size < wx.heap.size ∧ b2 < wx.heap.size ∧ Below (w.heap.size + 1) W1 wx) (((try (dsimp only at *)); (try go_split_ands); (repeat' apply And.intro); all_goals (first | assumption | (simp [*, World.cell?_alloc_some]; done) | (go_simp; done) | (simp; omega) | (exact hbW.drew) | (exact (hbW.drew.cell (p := ⟨_, _, none⟩) (by assumption)).trans (by assumption)) | (exact (hb.cell (p := ⟨_, _, none⟩) (by assumption)).trans (by assumption)) | (exact Nat.lt_of_lt_of_le (by assumption) hb.size) | (exact (‹Below (w.heap.size + 1) W1 _›).trans (hb.mono (by first | omega | (simp; omega)))))))
              (first | (go_at_call 80; refine (behind_is _ _ _ _ false hq _).mono ?_; rintro e w' ⟨rfl, hb⟩))
            go_split_ands
            go_wp2
            go_ret
            exact ⟨ret_int H.out, hbw1.trans ((‹Below (w.heap.size + 1) W1 _›).mono (by omega))⟩
          · have H : Hid (spErr m0 m1 (ahead l (k + 1)) (l.drop (k + 1)) = spErr m0 m1 none l) := by
              show _ = _
              rw [← HK'.out, HA.out, HN.out]
              conv => rhs; unfold spErr
              rw [if_neg (by simp [hg])]
              simp [hq]
            clear HK' HN HA
            go_wp2_with (go_at_call 79; refine (givable_is _ _ _ _ _ _ true hg _).mono ?_; rintro e w1 ⟨rfl, hb1⟩)
            have hz1 := hb1.size
            simp at hz1
            have s0 : w1.cell? ⟨wr.heap.size, 0, none⟩ = some (.int .i64 r.cls) := by rw [hb1.cell (by simp)]; simp
            have s1 : w1.cell? ⟨wr.heap.size, 1, none⟩ = some (.int .i64 r.n) := by rw [hb1.cell (by simp)]; simp
            have s2 : w1.cell? ⟨b2, off2 + (k - 1) * 2, none⟩ = some (.int .i64 q.cls) := by rw [hb1.cell (by simp; omega), World.cell?_alloc_some _ _ _ (by rw [q0]; rfl)]; exact q0
            have s3 : w1.cell? ⟨b2, off2 + (k - 1) * 2 + 1, none⟩ = some (.int .i64 q.n) := by rw [hb1.cell (by simp; omega), World.cell?_alloc_some _ _ _ (by rw [q1]; rfl)]; exact q1
            have hbW : Below (w.heap.size + 1) W1 w1 := (hbr.alloc (by omega) _).trans (hb1.mono (by simp; omega))
            have t1 : wr.heap.size < w1.heap.size := by omega
            have t2 : b2 < w1.heap.size := by omega
            clear hb1
            go_region_held3 (fun wx => wx.cell? ⟨wr.heap.size, 0, none⟩ = some (.int .i64 r.cls) ∧ wx.cell? ⟨wr.heap.size, 1, none⟩ = some (.int .i64 r.n) ∧ wx.cell? ⟨b2, off2 + (k - 1) * 2, none⟩ = some (.int .i64 q.cls) ∧ wx.cell? ⟨b2, off2 + (k - 1) * 2 + 1, none⟩ = some (.int .i64 q.n) ∧ wr.heap.size < wx.heap.size ∧ b2 < wx.heap.size ∧ Below (w.heap.size + 1) W1 wx) (((try (dsimp only at *)); (try go_split_ands); (repeat' apply And.intro); all_goals (first | assumption | (simp [*, World.cell?_alloc_some]; done) | (go_simp; done) | (simp; omega) | (exact hbW.drew) | (exact (hbW.drew.cell (p := ⟨_, _, none⟩) (by assumption)).trans (by assumption)) | (exact (hb.cell (p := ⟨_, _, none⟩) (by assumption)).trans (by assumption)) | (exact Nat.lt_of_lt_of_le (by assumption) hb.size) | (exact (‹Below (w.heap.size + 1) W1 _›).trans (hb.mono (by first | omega | (simp; omega)))))))
              (first | (go_at_call 80; refine (behind_is _ _ _ _ true hq _).mono ?_; rintro e w' ⟨rfl, hb⟩))
            go_split_ands
            go_wp2
            go_roundw
            case rel => exact ⟨k + 1, by omega, by go_num, by assumption, by omega, H⟩
            case measure => simp [intOf]; omega
    · have H : Hid (0 = spErr m0 m1 none l) := by
        show _ = _
        rw [← HK.out, List.drop_of_length_le (by omega)]
        cases (ahead l k) <;> rfl
      clear HK
      go_wp2
      go_ret
      exact ⟨ret_int H.out, hbwr⟩
end Go.Proofs.Ytengmgdnpojfjaa
