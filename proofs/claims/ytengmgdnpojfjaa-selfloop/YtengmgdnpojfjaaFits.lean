/-
  The contracts of 'blockFits' and 'sizesFit': what each answers of whatever block or function; neither writes to what was there.
-/
import Derived.Test.YtengmgdnpojfjaaRep
import Derived.WalkSpells
import Derived.WalkLawsBesides
import Derived.Test.YtengmgdnpojfjaaMach
namespace Go.Proofs.Ytengmgdnpojfjaa
open Go.RowKit
set_option linter.unusedVariables false

def insFits (x : Ins) : Bool := decide (x.operands.length ≤ 6 ∧ x.spoils.length ≤ 20)
def blkFits (b : Blk) : Bool := decide (b.params.length ≤ 5 ∧ b.instrs.length ≤ 40 ∧ b.edges.length ≤ 3) && b.instrs.all insFits

theorem all_snoc {α : Type} (l : List α) (p : α → Bool) (k : Nat) (h : k < l.length) (h1 : (l.take k).all p = true) (h2 : p l[k] = true) : (l.take (k + 1)).all p = true := by
  rw [List.take_succ_eq_append_getElem h, List.all_append, h1]
  simp [h2]
theorem all_not {α : Type} (l : List α) (p : α → Bool) (k : Nat) (h : k < l.length) (h2 : p l[k] = false) : l.all p = false := by
  rw [List.all_eq_false]
  exact ⟨l[k], List.getElem_mem h, by simp [h2]⟩
theorem all_done {α : Type} (l : List α) (p : α → Bool) (k : Nat) (h : l.length ≤ k) (h1 : (l.take k).all p = true) : l.all p = true := by
  rwa [List.take_of_length_le h] at h1

theorem blkFits_false {b : Blk} (h : 5 < b.params.length ∨ 40 < b.instrs.length ∨ 3 < b.edges.length ∨ b.instrs.all insFits = false) : blkFits b = false := by
  unfold blkFits
  rcases h with h | h | h | h
  · simp; omega
  · simp; omega
  · simp; omega
  · rw [h]; simp
theorem blkFits_true {b : Blk} (h1 : b.params.length ≤ 5) (h2 : b.instrs.length ≤ 40) (h3 : b.edges.length ≤ 3) (h : b.instrs.all insFits = true) : blkFits b = true := by
  unfold blkFits
  rw [h]
  simp [h1, h2, h3]

set_option maxHeartbeats 1000000 in
theorem blockFits_any (b : Blk) (vp vi ve : Value) (w : World) (hp : SlOf w 1 RInt vp b.params) (hi : SlOf w 3 (RIns w) vi b.instrs) (he : SlOf w 2 (REdg w) ve b.edges) :
    Calls Try.prog 65 #[.agg #[vp, vi, ve]] w fun e w' => e = .returned (.bool (blkFits b)) ∧ Below w.heap.size w w' := by
  obtain ⟨ap, cp, rfl, lp⟩ := hp.out
  obtain ⟨ai, ci, rfl, li⟩ := hi.out
  obtain ⟨ae, ce, rfl, le⟩ := he.out
  by_cases h1 : b.params.length ≤ 5
  · by_cases h2 : b.instrs.length ≤ 40
    · by_cases h3 : b.edges.length ≤ 3
      · have g1 : ¬ (5 : Int) < (b.params.length : Int) := by omega
        have g2 : ¬ (40 : Int) < (b.instrs.length : Int) := by omega
        have g3 : ¬ (3 : Int) < (b.edges.length : Int) := by omega
        go_enter Try.func65, Try.ntmps65
        go_wp2
        go_loopw [24] (fun i wr => ∃ k : Nat, k ≤ b.instrs.length ∧ i = .int .i64 k ∧ Below w.heap.size w wr ∧ w.heap.size < wr.heap.size ∧ (b.instrs.take k).all insFits = true) (fun i _ => b.instrs.length - (intOf i).toNat)
        case atStart => exact ⟨0, Nat.zero_le _, rfl, (Below.refl _ _).alloc (Nat.le_refl _) _, by simp, by simp⟩
        case round =>
          obtain ⟨k, hk, rfl, hb, hs, hall⟩ := hrel
          by_cases hlt : k < b.instrs.length
          · obtain ⟨bb, off, cs, rfl, hcl, ⟨vo, vs, rfl, ho, hsp⟩, hc⟩ := (hi.below hb fun _ _ h => h).at k hlt
            obtain ⟨ao, co, rfl, lo⟩ := ho.out
            obtain ⟨asp, csp, rfl, lsp⟩ := hsp.out
            have c0 := hc 0 (by simp)
            have c1 := hc 1 (by simp)
            have c2 := hc 2 (by simp)
            simp at c0 c1 c2
            clear hc
            by_cases hf : b.instrs[k].operands.length ≤ 6
            · by_cases hg : b.instrs[k].spoils.length ≤ 20
              · have g4 : ¬ (6 : Int) < (b.instrs[k].operands.length : Int) := by omega
                have g5 : ¬ (20 : Int) < (b.instrs[k].spoils.length : Int) := by omega
                have hif : insFits b.instrs[k] = true := by simp [insFits, hf, hg]
                have H : Hid ((b.instrs.take (k + 1)).all insFits = true) := all_snoc _ _ _ hlt hall hif
                clear hif hall
                go_wp2
                go_roundw
                case rel => exact ⟨k + 1, by omega, by go_num, hb.alloc (by omega) _, by simp; omega, H.out⟩
                case measure => simp [intOf]; omega
              · have g4 : ¬ (6 : Int) < (b.instrs[k].operands.length : Int) := by omega
                have g5 : (20 : Int) < (b.instrs[k].spoils.length : Int) := by omega
                have hif : insFits b.instrs[k] = false := by simp [insFits]; omega
                have H : Hid (false = blkFits b) := (blkFits_false (.inr (.inr (.inr (all_not _ _ _ hlt hif))))).symm
                clear hif hall
                go_wp2
                go_ret
                exact ⟨ret_bool H.out, hb.alloc (by omega) _⟩
            · have g4 : (6 : Int) < (b.instrs[k].operands.length : Int) := by omega
              have hif : insFits b.instrs[k] = false := by simp [insFits]; omega
              have H : Hid (false = blkFits b) := (blkFits_false (.inr (.inr (.inr (all_not _ _ _ hlt hif))))).symm
              clear hif hall
              go_wp2
              go_ret
              exact ⟨ret_bool H.out, hb.alloc (by omega) _⟩
          · have H : Hid (true = blkFits b) := (blkFits_true h1 h2 h3 (all_done _ _ k (by omega) hall)).symm
            clear hall
            go_wp2
            go_ret
            exact ⟨ret_bool H.out, hb⟩
      · have g1 : ¬ (5 : Int) < (b.params.length : Int) := by omega
        have g2 : ¬ (40 : Int) < (b.instrs.length : Int) := by omega
        have g3 : (3 : Int) < (b.edges.length : Int) := by omega
        have H : Hid (false = blkFits b) := (blkFits_false (by omega)).symm
        go_enter Try.func65, Try.ntmps65
        go_wp2
        go_ret
        exact ⟨ret_bool H.out, (Below.refl _ _).alloc (Nat.le_refl _) _⟩
    · have g1 : ¬ (5 : Int) < (b.params.length : Int) := by omega
      have g2 : (40 : Int) < (b.instrs.length : Int) := by omega
      have H : Hid (false = blkFits b) := (blkFits_false (by omega)).symm
      go_enter Try.func65, Try.ntmps65
      go_wp2
      go_ret
      exact ⟨ret_bool H.out, (Below.refl _ _).alloc (Nat.le_refl _) _⟩
  · have g1 : (5 : Int) < (b.params.length : Int) := by omega
    have H : Hid (false = blkFits b) := (blkFits_false (by omega)).symm
    go_enter Try.func65, Try.ntmps65
    go_wp2
    go_ret
    exact ⟨ret_bool H.out, (Below.refl _ _).alloc (Nat.le_refl _) _⟩

def sizesGo : Nat → List Blk → Bool
  | _, [] => true
  | all, b :: r => if 160 < all + b.instrs.length then false else if blkFits b then sizesGo (all + b.instrs.length) r else false
def sizesB (f : Fn) : Bool := if f.blocks.length = 0 ∨ 16 < f.blocks.length ∨ 160 < f.values.length then false else sizesGo 0 f.blocks

theorem drop_at {α : Type} (l : List α) (k : Nat) (h : k < l.length) : l.drop k = l[k] :: l.drop (k + 1) := List.drop_eq_getElem_cons h

set_option maxHeartbeats 1000000 in
theorem sizesFit_any (f : Fn) (vv vb : Value) (w : World) (hv : SlOf w 1 RInt vv f.values) (hb : SlOf w 3 (RBlk w) vb f.blocks) :
    Calls Try.prog 48 #[.agg #[vv, vb]] w fun e w' => e = .returned (.bool (sizesB f)) ∧ Below w.heap.size w w' := by
  obtain ⟨av, cv, rfl, lv⟩ := hv.out
  obtain ⟨ab, cb, rfl, lb⟩ := hb.out
  unfold longest at lv lb
  by_cases h1 : f.blocks.length = 0
  · have H : Hid (false = sizesB f) := by show _ = _; simp [sizesB, h1]
    have g1 : ((f.blocks.length : Int) == 0) = true := by simp [h1]
    clear h1
    go_enter Try.func48, Try.ntmps48
    go_wp2
    go_ret
    exact ⟨ret_bool H.out, (Below.refl _ _).alloc (Nat.le_refl _) _⟩
  · have g1 : ((f.blocks.length : Int) == 0) = false := by rw [beq_eq_false_iff_ne]; omega
    by_cases h2 : 16 < f.blocks.length
    · have H : Hid (false = sizesB f) := by show _ = _; simp [sizesB, h2]
      have g2 : (16 : Int) < (f.blocks.length : Int) := by omega
      go_enter Try.func48, Try.ntmps48
      go_wp2
      go_ret
      exact ⟨ret_bool H.out, (Below.refl _ _).alloc (Nat.le_refl _) _⟩
    · have g2 : ¬ (16 : Int) < (f.blocks.length : Int) := by omega
      by_cases h3 : 160 < f.values.length
      · have H : Hid (false = sizesB f) := by show _ = _; simp [sizesB, h3]
        have g3 : (160 : Int) < (f.values.length : Int) := by omega
        go_enter Try.func48, Try.ntmps48
        go_wp2
        go_ret
        exact ⟨ret_bool H.out, (Below.refl _ _).alloc (Nat.le_refl _) _⟩
      · have g3 : ¬ (160 : Int) < (f.values.length : Int) := by omega
        have H : Hid (sizesGo 0 f.blocks = sizesB f) := by show _ = _; unfold sizesB; rw [if_neg (by omega)]
        go_enter Try.func48, Try.ntmps48
        go_wp2
        go_loopw [3, 25] (fun t i wr => ∃ k A : Nat, k ≤ f.blocks.length ∧ A ≤ 160 ∧ i = .int .i64 k ∧ t = .int .i64 A ∧ Below w.heap.size w wr ∧ w.heap.size < wr.heap.size ∧ Hid (sizesGo A (f.blocks.drop k) = sizesB f)) (fun _ i _ => f.blocks.length - (intOf i).toNat)
        case atStart => exact ⟨0, 0, Nat.zero_le _, by omega, rfl, rfl, (Below.refl _ _).alloc (Nat.le_refl _) _, by simp, H⟩
        case round =>
          obtain ⟨k, A, hk, hA, rfl, rfl, hbw, hs, HK⟩ := hrel
          clear H
          by_cases hlt : k < f.blocks.length
          · have HK' : Hid (sizesGo A (f.blocks[k] :: f.blocks.drop (k + 1)) = sizesB f) := by rw [← drop_at _ _ hlt]; exact HK
            clear HK
            obtain ⟨bb, off, cs, rfl, hcl, ⟨vp, vi, ve, rfl, hp, hi, he⟩, hc⟩ := (hb.below hbw (RBlk.below hbw)).at k hlt
            obtain ⟨ap, cp, rfl, lp⟩ := hp.out
            obtain ⟨ai, ci, rfl, li⟩ := hi.out
            obtain ⟨ae, ce, rfl, le⟩ := he.out
            unfold longest at lp li le
            have c0 := hc 0 (by simp)
            have c1 := hc 1 (by simp)
            have c2 := hc 2 (by simp)
            simp at c0 c1 c2
            clear hc
            generalize f.blocks[k] = b at *
            have hba : Below wr.heap.size wr (wr.alloc (.cells #[.slice ap b.params.length cp, .slice ai b.instrs.length ci, .slice ae b.edges.length ce] 50)) := (Below.refl _ _).alloc (Nat.le_refl _) _
            have hp' := hp.below hba fun _ _ h => h
            have hi' := hi.below hba (RIns.below hba)
            have he' := he.below hba (REdg.below hba)
            clear hp hi he
            by_cases h4 : 160 < A + b.instrs.length
            · have g4 : (160 : Int) < (A : Int) + (b.instrs.length : Int) := by omega
              have H : Hid (false = sizesB f) := by
                show _ = _
                rw [← HK'.out]
                unfold sizesGo
                rw [if_pos h4]
              clear HK'
              go_wp2
              go_ret
              exact ⟨ret_bool H.out, hbw.alloc (by omega) _⟩
            · have g4 : ¬ (160 : Int) < (A : Int) + (b.instrs.length : Int) := by omega
              cases h5 : blkFits b
              · have H : Hid (false = sizesB f) := by
                  show _ = _
                  rw [← HK'.out]
                  unfold sizesGo
                  rw [if_neg h4, h5]
                  simp
                clear HK'
                go_wp2_with (go_at_call 65; refine (blockFits_any b _ _ _ _ hp' hi' he').mono ?_; rintro e w1 ⟨rfl, hb1⟩)
                go_ret
                exact ⟨ret_bool H.out, (hbw.alloc (by omega) _).trans (hb1.mono (by simp; omega))⟩
              · have H : Hid (sizesGo (A + b.instrs.length) (f.blocks.drop (k + 1)) = sizesB f) := by
                  show _ = _
                  rw [← HK'.out]
                  conv => rhs; unfold sizesGo
                  rw [if_neg h4, h5]
                  simp
                clear HK'
                go_wp2_with (go_at_call 65; refine (blockFits_any b _ _ _ _ hp' hi' he').mono ?_; rintro e w1 ⟨rfl, hb1⟩)
                have hz := hb1.size
                simp at hz
                go_roundw
                case rel => exact ⟨k + 1, A + b.instrs.length, by omega, by omega, by go_num, by go_num, (hbw.alloc (by omega) _).trans (hb1.mono (by simp; omega)), by omega, H⟩
                case measure => simp [intOf]; omega
          · have H : Hid (true = sizesB f) := by
              show _ = _
              rw [← HK.out, List.drop_of_length_le (by omega)]
              rfl
            clear HK
            go_wp2
            go_ret
            exact ⟨ret_bool H.out, hbw⟩
end Go.Proofs.Ytengmgdnpojfjaa
