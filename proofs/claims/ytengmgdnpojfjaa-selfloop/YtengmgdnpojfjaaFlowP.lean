/-
  The contract of 'depths': in how many loops each block is.
-/
import Derived.Test.YtengmgdnpojfjaaFlowO
namespace Go.Proofs.Ytengmgdnpojfjaa
open Go.RowKit
set_option linter.unusedVariables false

theorem loop_is (n : Nat) (rank idom : Nat → Int) (preds : List (List Int)) (ap ao ad : Option Addr) (cp co cd : Nat) (head : Nat) (M : Nat) (w : World) (hM : w.heap.size = M) (hp : SlOf w 1 (RRow w) (.slice ap n cp) preds) (hpl : preds.length = n) (hin : ∀ t : Nat, ∀ p ∈ preds.getD t [], 0 ≤ p ∧ p < (n : Int))
    (hid : SlOf w 1 RInt (.slice ad n cd) (fnL n idom)) (hk : DomOk n rank idom) (hh : head < n) (hn : n ≤ 1000) :
    Calls Try.prog 46 #[.agg #[.slice ap n cp, .slice ao n co, .slice ad n cd], .int .i64 head] w fun e w' => e = .returned (.slice (some ⟨M + 1, 0, none⟩) n n) ∧ w'.rowIs (M + 1) 4 n (fun i => .bool (loopM (predL preds) idom n head i)) ∧ Below w.heap.size w w' := by
  subst hM; exact loop_any n rank idom preds ap ao ad cp co cd n head w rfl hp hpl hin hid hk hh hn

def dC (pred : Nat → List Int) (idom : Nat → Int) (n h b : Nat) : Int := ((List.range h).countP fun x => loopM pred idom n x b : Nat)
theorem dC_succ (pred : Nat → List Int) (idom : Nat → Int) (n h b : Nat) : dC pred idom n (h + 1) b = dC pred idom n h b + (if loopM pred idom n h b then 1 else 0) := by
  unfold dC
  rw [List.range_succ, List.countP_append]
  cases hb : loopM pred idom n h b <;> simp [hb]
theorem dC_le (pred : Nat → List Int) (idom : Nat → Int) (n h b : Nat) : 0 ≤ dC pred idom n h b ∧ dC pred idom n h b ≤ h := by
  unfold dC
  have := List.countP_le_length (p := fun x => loopM pred idom n x b) (l := List.range h)
  rw [List.length_range] at this
  omega
/-- The graph in its box, the depths in their row. -/
structure DSt (w0 : World) (N n : Nat) (vp vo vd : Value) (w : World) (d : Nat → Int) : Prop where
  g : w.rowIs N 59 3 (fun i => if i = 0 then vp else if i = 1 then vo else vd)
  rr : w.rowIs (N + 1) 3 n (fun i => .int .i64 (d i))
  low : Below N w0 w
theorem DSt.below {w0 : World} {N n : Nat} {vp vo vd : Value} {w w' : World} {d : Nat → Int} (h : DSt w0 N n vp vo vd w d) (hb : Below w.heap.size w w') : DSt w0 N n vp vo vd w' d :=
  ⟨h.g.of_block (hb.block _ h.g.lt), h.rr.of_block (hb.block _ h.rr.lt), h.low.trans (hb.mono (by have := h.g.lt; omega))⟩
theorem DSt.congr {w0 : World} {N n : Nat} {vp vo vd : Value} {w : World} {d d' : Nat → Int} (h : DSt w0 N n vp vo vd w d) (he : ∀ i, i < n → d i = d' i) : DSt w0 N n vp vo vd w d' := ⟨h.g, h.rr.congr fun i hi => by rw [he i hi], h.low⟩
theorem DSt.put {w0 : World} {N n : Nat} {vp vo vd : Value} {w : World} {d : Nat → Int} (h : DSt w0 N n vp vo vd w d) (b : Nat) (x : Int) : DSt w0 N n vp vo vd (w.setCell ⟨N + 1, b, none⟩ (.int .i64 x)) (upI d b x) := by
  refine ⟨h.g.setOther (by simp; try omega) _, (h.rr.set b _).congr fun j hj => ?_, h.low.setCell (by simp) _⟩
  unfold upI
  split <;> rfl

set_option maxHeartbeats 4000000 in
theorem depths_any (n : Nat) (rank idom : Nat → Int) (preds : List (List Int)) (ap ao ad : Option Addr) (cp co cd : Nat) (w : World) (hp : SlOf w 1 (RRow w) (.slice ap n cp) preds) (hpl : preds.length = n) (hin : ∀ t : Nat, ∀ p ∈ preds.getD t [], 0 ≤ p ∧ p < (n : Int))
    (hid : SlOf w 1 RInt (.slice ad n cd) (fnL n idom)) (hk : DomOk n rank idom) (hn : n ≤ 1000) :
    Calls Try.prog 26 #[.agg #[.slice ap n cp, .slice ao n co, .slice ad n cd]] w fun e w' => e = .returned (.slice (some ⟨w.heap.size + 1, 0, none⟩) n n) ∧ w'.rowIs (w.heap.size + 1) 3 n (fun i => .int .i64 (depthM (predL preds) idom n i)) ∧ Below w.heap.size w w' := by
  have hmk := run_make_row' (P := Try.prog) 22 3 (.int .i64 0) 8 Try.underlying22 (by kernel_rfl) rfl .i64 .i64 n (by omega) (by omega)
  have HP : Hid (SlOf w 1 (RRow w) (.slice ap n cp) preds ∧ preds.length = n ∧ (∀ t : Nat, ∀ p ∈ preds.getD t [], 0 ≤ p ∧ p < (n : Int)) ∧ SlOf w 1 RInt (.slice ad n cd) (fnL n idom) ∧ DomOk n rank idom) := ⟨hp, hpl, hin, hid, hk⟩
  obtain ⟨W, hW⟩ : ∃ W, W = (w.alloc (.cells #[.slice ap n cp, .slice ao n co, .slice ad n cd] 59)).alloc (.cells (madeCells #[.int .i64 0] n) 3) := ⟨_, rfl⟩
  have hst : DSt w w.heap.size n (.slice ap n cp) (.slice ao n co) (.slice ad n cd) W (dC (predL preds) idom n 0) := by
    rw [hW]
    have r0 : (w.alloc (.cells #[.slice ap n cp, .slice ao n co, .slice ad n cd] 59)).rowIs w.heap.size 59 3 (fun i => if i = 0 then .slice ap n cp else if i = 1 then .slice ao n co else .slice ad n cd) :=
      World.rowIs_alloc _ _ _ _ fun i hi => by
        simp at hi
        match i, hi with | 0, _ => rfl | 1, _ => rfl | 2, _ => rfl
    have r1 := World.rowIs_made (w.alloc (.cells #[.slice ap n cp, .slice ao n co, .slice ad n cd] 59)) (.int .i64 0) n 3
    have e : (w.alloc (.cells #[.slice ap n cp, .slice ao n co, .slice ad n cd] 59)).heap.size = w.heap.size + 1 := by simp
    rw [e] at r1
    exact ⟨r0.alloc _, r1, ((Below.refl _ _).alloc (Nat.le_refl _) _).alloc (by simp) _⟩
  have HW : Hid (W = (w.alloc (.cells #[.slice ap n cp, .slice ao n co, .slice ad n cd] 59)).alloc (.cells (madeCells #[.int .i64 0] n) 3)) := hW
  have HS0 : Hid (DSt w w.heap.size n (.slice ap n cp) (.slice ao n co) (.slice ad n cd) W (dC (predL preds) idom n 0)) := hst
  clear hW hst hp hpl hin hid hk
  go_enter Try.func26, Try.ntmps26
  go_upto_region 2 with fail
  rw [← HW.out]
  clear hmk HW
  go_wp2_with fail
  go_loopw [13] (fun i wr => ∃ h : Nat, h ≤ n ∧ i = .int .i64 h ∧ Hid (DSt w w.heap.size n (.slice ap n cp) (.slice ao n co) (.slice ad n cd) wr (dC (predL preds) idom n h))) (fun i _ => n - (intOf i).toNat)
  case atStart => exact ⟨0, Nat.zero_le _, rfl, HS0⟩
  case round =>
    obtain ⟨h, hh, rfl, HI⟩ := hrel
    by_cases hlt : h < n
    · obtain ⟨M, hM⟩ : ∃ M, wr.heap.size = M := ⟨_, rfl⟩
      have hlow := HI.out.low
      have HC := loop_is n rank idom preds ap ao ad cp co cd h M wr hM (HP.out.1.below hlow (RRow.below hlow)) HP.out.2.1 HP.out.2.2.1 (HP.out.2.2.2.1.below hlow fun _ _ h => h) HP.out.2.2.2.2 hlt hn
      have g0 : _ = some _ := HI.out.g.cell (i := 0) (by omega)
      have g1 : _ = some _ := HI.out.g.cell (i := 1) (by omega)
      have g2 : _ = some _ := HI.out.g.cell (i := 2) (by omega)
      have lM : w.heap.size + 1 < M := by rw [← hM]; exact HI.out.rr.lt
      clear hM hlow
      go_wp2_with fail
      refine HC.mono ?_
      clear HC g0 g1 g2
      rintro e w2 ⟨rfl, hrow, hb2⟩
      have HI2 : Hid (DSt w w.heap.size n (.slice ap n cp) (.slice ao n co) (.slice ad n cd) w2 (fun b => if b < 0 then dC (predL preds) idom n (h + 1) b else dC (predL preds) idom n h b) ∧ w2.rowIs (M + 1) 4 n (fun i => .bool (loopM (predL preds) idom n h i))) := ⟨(HI.out.below hb2).congr fun i hi => by simp, hrow⟩
      clear hrow hb2 HI
      go_wp2_with fail
      go_loopw [20] (fun i wr => ∃ j : Nat, j ≤ n ∧ i = .int .i64 j ∧ Hid (DSt w w.heap.size n (.slice ap n cp) (.slice ao n co) (.slice ad n cd) wr (fun b => if b < j then dC (predL preds) idom n (h + 1) b else dC (predL preds) idom n h b) ∧ wr.rowIs (M + 1) 4 n (fun i => .bool (loopM (predL preds) idom n h i)))) (fun i _ => n - (intOf i).toNat)
      case atStart => exact ⟨0, Nat.zero_le _, rfl, HI2⟩
      case round =>
        obtain ⟨j, hj, rfl, HJ⟩ := hrel
        by_cases hjl : j < n
        · have s1 : wr.cell? ⟨M + 1, j, none⟩ = some (.bool (loopM (predL preds) idom n h j)) := HJ.out.2.cell hjl
          have hsucc := dC_succ (predL preds) idom n h j
          cases hb : loopM (predL preds) idom n h j
          · rw [hb] at s1 hsucc
            have HN : Hid (DSt w w.heap.size n (.slice ap n cp) (.slice ao n co) (.slice ad n cd) wr (fun b => if b < j + 1 then dC (predL preds) idom n (h + 1) b else dC (predL preds) idom n h b) ∧ wr.rowIs (M + 1) 4 n (fun i => .bool (loopM (predL preds) idom n h i))) := by
              refine ⟨HJ.out.1.congr fun i hi => ?_, HJ.out.2⟩
              by_cases e : i = j
              · subst e
                rw [if_neg (by omega), if_pos (by omega), hsucc]
                simp
              · by_cases e2 : i < j
                · rw [if_pos e2, if_pos (by omega)]
                · rw [if_neg e2, if_neg (by omega)]
            clear hb hsucc HJ
            go_wp2
            go_roundw
            case rel => exact ⟨j + 1, by omega, by go_num, HN⟩
            case measure => simp [intOf]; omega
          · rw [hb] at s1 hsucc
            have s2 : wr.cell? ⟨w.heap.size + 1, j, none⟩ = some (.int .i64 (dC (predL preds) idom n h j)) := by
              have := HJ.out.1.rr.cell hjl
              simp only [Nat.lt_irrefl, if_false] at this
              exact this
            have s3 := HJ.out.1.rr.frozen j
            have hle := dC_le (predL preds) idom n h j
            have HN : Hid (DSt w w.heap.size n (.slice ap n cp) (.slice ao n co) (.slice ad n cd) (wr.setCell ⟨w.heap.size + 1, j, none⟩ (.int .i64 (dC (predL preds) idom n h j + 1))) (fun b => if b < j + 1 then dC (predL preds) idom n (h + 1) b else dC (predL preds) idom n h b) ∧ (wr.setCell ⟨w.heap.size + 1, j, none⟩ (.int .i64 (dC (predL preds) idom n h j + 1))).rowIs (M + 1) 4 n (fun i => .bool (loopM (predL preds) idom n h i))) := by
              refine ⟨(HJ.out.1.put j _).congr fun i hi => ?_, HJ.out.2.setOther (by simp; omega) _⟩
              unfold upI
              by_cases e : i = j
              · subst e
                rw [if_pos rfl, if_pos (by omega), hsucc]
                simp
              · rw [if_neg e]
                show (if i < j then _ else _) = _
                by_cases e2 : i < j
                · rw [if_pos e2, if_pos (by omega)]
                · rw [if_neg e2, if_neg (by omega)]
            generalize dC (predL preds) idom n h j = x at *
            have hwr : IntKind.i64.wrap (x + 1) = x + 1 := by rw [IntKind.wrap_i64]; omega
            clear hb hsucc HJ
            go_wp2
            go_roundw
            case rel => exact ⟨j + 1, by omega, by go_num, HN⟩
            case measure => simp [intOf]; omega
        · have HN : Hid (DSt w w.heap.size n (.slice ap n cp) (.slice ao n co) (.slice ad n cd) wr (dC (predL preds) idom n (h + 1))) := HJ.out.1.congr fun i hi => by rw [if_pos (by omega)]
          clear HJ
          go_wp2
          go_roundw
          case rel => exact ⟨h + 1, by omega, by go_num, HN⟩
          case measure => simp [intOf]; omega
    · have he : h = n := by omega
      have HN : Hid (DSt w w.heap.size n (.slice ap n cp) (.slice ao n co) (.slice ad n cd) wr (depthM (predL preds) idom n)) := by
        have h2 := HI.out
        rw [he] at h2
        exact h2
      clear HI he
      go_wp2
      go_ret
      exact ⟨rfl, HN.out.rr, HN.out.low⟩
end Go.Proofs.Ytengmgdnpojfjaa
