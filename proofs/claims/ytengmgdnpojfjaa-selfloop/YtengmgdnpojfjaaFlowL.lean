/-
  The contract of the closure of 'loop': a block is entered, and all that leads to it.
-/
import Derived.Test.YtengmgdnpojfjaaFlowF
import Derived.Test.YtengmgdnpojfjaaFlowN
import Derived.Laws.EntriesVeiled
namespace Go.Proofs.Ytengmgdnpojfjaa
open Go.RowKit
set_option linter.unusedVariables false

theorem enter_fold {n : Nat} (k : Nat) (pred : Nat → List Int) (h : ∀ (b : Nat) (s : Nat → Bool) i, s i = true → enterM pred k b s i = true) : ∀ (l : List Int) (s : Nat → Bool) i, s i = true → l.foldl (fun s p => enterM pred k p.toNat s) s i = true
  | [], _, _, h2 => h2
  | p :: r, s, i, h2 => enter_fold (n := n) k pred h r _ i (h p.toNat s i h2)
theorem enter_mono (pred : Nat → List Int) : ∀ (k b : Nat) (s : Nat → Bool) (i : Nat), s i = true → enterM pred k b s i = true
  | 0, _, _, _, h => h
  | k + 1, b, s, i, h => by
    unfold enterM
    split
    · exact h
    · refine enter_fold (n := 0) k pred (fun b s i h => enter_mono pred k b s i h) _ _ i ?_
      unfold upB
      split
      · rfl
      · exact h

/-- What the closure looks at. -/
structure LSt (w0 : World) (N n : Nat) (vp vo vd : Value) (w : World) (inn : Nat → Bool) : Prop where
  g : w.rowIs N 59 3 (fun i => if i = 0 then vp else if i = 1 then vo else vd)
  rr : w.rowIs (N + 1) 4 n (fun i => .bool (inn i))
  pr : w.rowIs (N + 1 + 1) 62 1 (fun _ => .slice (some ⟨N + 1, 0, none⟩) n n)
  pv : w.rowIs (N + 1 + 1 + 1) 87 1 (fun _ => .func (.func 63) #[] #[.pointer (some ⟨N + 1 + 1, 0, none⟩), .pointer (some ⟨N, 0, none⟩), .pointer (some ⟨N + 1 + 1 + 1, 0, none⟩)])
  low : Below N w0 w
  base : w0.heap.size = N
theorem LSt.below {w0 : World} {N n : Nat} {vp vo vd : Value} {w w' : World} {inn : Nat → Bool} (h : LSt w0 N n vp vo vd w inn) (hb : Below w.heap.size w w') : LSt w0 N n vp vo vd w' inn :=
  ⟨h.g.of_block (hb.block _ h.g.lt), h.rr.of_block (hb.block _ h.rr.lt), h.pr.of_block (hb.block _ h.pr.lt), h.pv.of_block (hb.block _ h.pv.lt), h.low.trans (hb.mono (by have := h.g.lt; omega)), h.base⟩
theorem LSt.mark {w0 : World} {N n : Nat} {vp vo vd : Value} {w : World} {inn : Nat → Bool} (h : LSt w0 N n vp vo vd w inn) (b : Nat) : LSt w0 N n vp vo vd (w.setCell ⟨N + 1, b, none⟩ (.bool true)) (upB inn b true) := by
  refine ⟨h.g.setOther (by simp; try omega) _, (h.rr.set b _).congr fun j hj => ?_, h.pr.setOther (by simp; try omega) _, h.pv.setOther (by simp; try omega) _, h.low.setCell (by simp) _, h.base⟩
  unfold upB
  split <;> rfl

/-- The closure does what the plain one does, with so much fuel. -/
def EnterOk (w0 : World) (N n : Nat) (preds : List (List Int)) (vp vo vd : Value) (fuel : Nat) : Prop := ∀ (b : Int) (w : World) (inn : Nat → Bool), LSt w0 N n vp vo vd w inn → 0 ≤ b → b < n → unb n inn + 1 ≤ fuel →
    Calls Try.prog 63 #[.int .i64 b, .pointer (some ⟨N + 1 + 1, 0, none⟩), .pointer (some ⟨N, 0, none⟩), .pointer (some ⟨N + 1 + 1 + 1, 0, none⟩)] w fun e w' => e = .returned (.tuple #[]) ∧ LSt w0 N n vp vo vd w' (enterM (predL preds) fuel b.toNat inn)

set_option maxHeartbeats 4000000 in
theorem enter_step (w0 : World) (N n : Nat) (preds : List (List Int)) (ap : Option Addr) (cp : Nat) (vo vd : Value) (hp : SlOf w0 1 (RRow w0) (.slice ap n cp) preds) (hpl : preds.length = n) (hin : ∀ t : Nat, ∀ p ∈ preds.getD t [], 0 ≤ p ∧ p < (n : Int)) (hn : n ≤ 1000)
    (fuel : Nat) (IH : Hid (EnterOk w0 N n preds (.slice ap n cp) vo vd fuel)) (b : Int) (w : World) (inn : Nat → Bool) (hS : LSt w0 N n (.slice ap n cp) vo vd w inn) (hb0 : 0 ≤ b) (hb1 : b < n) (hfu : unb n inn + 1 ≤ fuel + 1) :
    Calls Try.prog 63 #[.int .i64 b, .pointer (some ⟨N + 1 + 1, 0, none⟩), .pointer (some ⟨N, 0, none⟩), .pointer (some ⟨N + 1 + 1 + 1, 0, none⟩)] w fun e w' => e = .returned (.tuple #[]) ∧ LSt w0 N n (.slice ap n cp) vo vd w' (enterM (predL preds) (fuel + 1) b.toNat inn) := by
  have hbn : b.toNat < n := by omega
  have a1 := hS.pr.cell (i := 0) (by omega)
  have a2 : w.cell? ⟨N + 1, b.toNat, none⟩ = some (.bool (inn b.toNat)) := hS.rr.cell (i := b.toNat) hbn
  have a3 := hS.rr.frozen b.toNat
  cases hi : inn b.toNat
  · rw [hi] at a2
    obtain ⟨bp, offp, al, cl, rfl, hbp, hcp, hl, hll⟩ := rows_at hp b hb0 (by rw [hpl]; omega)
    unfold longest at hll
    have HEN : Hid (enterM (predL preds) (fuel + 1) b.toNat inn = (preds.getD b.toNat []).foldl (fun s p => enterM (predL preds) fuel p.toNat s) (upB inn b.toNat true)) := by
      show _ = _
      rw [enterM, if_neg (by simp [hi])]
      rfl
    have HIN : Hid (∀ p ∈ preds.getD b.toNat [], 0 ≤ p ∧ p < (n : Int)) := hin b.toNat
    generalize preds.getD b.toNat [] = l at *
    have HL : Hid (SlOf w0 1 RInt (.slice al l.length cl) l) := hl
    have hM := hS.mark b.toNat
    have hup := unb_up hbn hi
    have HUP : Hid (unb n (upB inn b.toNat true) + 1 ≤ fuel) := by show _ ≤ _; omega
    have hbpN : bp < N := by rw [← hS.base]; exact hbp
    obtain ⟨W, hW⟩ : ∃ W, W = w.setCell ⟨N + 1, b.toNat, none⟩ (.bool true) := ⟨_, rfl⟩
    have HW : Hid (W = w.setCell ⟨N + 1, b.toNat, none⟩ (.bool true)) := hW
    rw [← hW] at hM
    have HM : Hid (LSt w0 N n (.slice (some ⟨bp, offp, none⟩) n cp) vo vd W (upB inn b.toNat true)) := hM
    have g0 : W.cell? ⟨N, 0, none⟩ = some (.slice (some ⟨bp, offp, none⟩) n cp) := hM.g.cell (i := 0) (by omega)
    have p1 := (hM.low.cell (p := ⟨bp, offp + b.toNat, none⟩) hbpN).trans hcp
    clear hp hl hM hup hS hW hcp hi hin hfu hpl
    go_enter Try.func63, Try.ntmps63
    go_upto_region 2 with fail
    rw [← HW.out]
    clear a1 a2 a3 HW
    go_wp2_with fail
    clear g0 p1
    go_loopw [20] (fun i wr => ∃ j : Nat, j ≤ l.length ∧ i = .int .i64 j ∧ Hid (LSt w0 N n (.slice (some ⟨bp, offp, none⟩) n cp) vo vd wr ((l.take j).foldl (fun s p => enterM (predL preds) fuel p.toNat s) (upB inn b.toNat true)))) (fun i _ => l.length - (intOf i).toNat)
    case atStart => exact ⟨0, Nat.zero_le _, rfl, HM⟩
    case round =>
      obtain ⟨j, hj, rfl, HI⟩ := hrel
      by_cases hjl : j < l.length
      · obtain ⟨bl, offl, rfl, hbl, hcl⟩ := ints_at HL.out j (by omega) (by omega)
        have e : l.getD (j : Int).toNat 0 = l[j] := by simp [List.getD, hjl]
        rw [e, Int.toNat_natCast] at hcl
        have c1 := (HI.out.low.cell (p := ⟨bl, offl + j, none⟩) (by rw [← HI.out.base]; exact hbl)).trans hcl
        have hpj := HIN.out l[j] (List.getElem_mem hjl)
        have HST : Hid ((l.take (j + 1)).foldl (fun s p => enterM (predL preds) fuel p.toNat s) (upB inn b.toNat true) = enterM (predL preds) fuel l[j].toNat ((l.take j).foldl (fun s p => enterM (predL preds) fuel p.toNat s) (upB inn b.toNat true))) := by
          show _ = _
          rw [take_step _ _ _ _ hjl]
        have hun : unb n ((l.take j).foldl (fun s p => enterM (predL preds) fuel p.toNat s) (upB inn b.toNat true)) + 1 ≤ fuel := by
          have h1 := unb_mono (n := n) (fun i hi => enter_fold (n := n) fuel (predL preds) (fun b s i h => enter_mono (predL preds) fuel b s i h) (l.take j) (upB inn b.toNat true) i hi)
          have := HUP.out
          omega
        generalize l[j] = p at *
        generalize (l.take j).foldl (fun s p => enterM (predL preds) fuel p.toNat s) (upB inn b.toNat true) = s at *
        have p0 := hpj.1
        have p1 := hpj.2
        have HC := IH.out p wr s HI.out p0 p1 hun
        have r1 := HI.out.pv.cell (i := 0) (by omega)
        clear hpj e hcl hun HI
        go_wp2_with fail
        refine HC.mono ?_
        clear HC
        rintro e w2 ⟨rfl, hS2⟩
        have HR : Hid (LSt w0 N n (.slice (some ⟨bp, offp, none⟩) n cp) vo vd w2 ((l.take (j + 1)).foldl (fun s p => enterM (predL preds) fuel p.toNat s) (upB inn b.toNat true))) := by
          rw [HST.out]; exact hS2
        clear hS2
        go_wp2
        go_roundw
        case rel => exact ⟨j + 1, by omega, by go_num, HR⟩
        case measure => simp [intOf]; omega
      · have HR : Hid (LSt w0 N n (.slice (some ⟨bp, offp, none⟩) n cp) vo vd wr (enterM (predL preds) (fuel + 1) b.toNat inn)) := by
          have h := HI.out
          rw [List.take_of_length_le (by omega)] at h
          rw [HEN.out]
          exact h
        clear HI
        go_wp2
        first | go_end0 | refine bodyPost_ret (results_none rfl _ _ _) rfl ?_
        exact ⟨rfl, HR.out⟩
  · rw [hi] at a2
    have HR : Hid (LSt w0 N n (.slice ap n cp) vo vd w (enterM (predL preds) (fuel + 1) b.toNat inn)) := by
      show LSt _ _ _ _ _ _ _ _
      rw [enterM, if_pos hi]
      exact hS
    clear hS hi hfu hp hin
    go_enter Try.func63, Try.ntmps63
    go_wp2
    first | go_end0 | refine bodyPost_ret (results_none rfl _ _ _) rfl ?_
    exact ⟨rfl, HR.out⟩
theorem enter_any (w0 : World) (N n : Nat) (preds : List (List Int)) (ap : Option Addr) (cp : Nat) (vo vd : Value) (hp : SlOf w0 1 (RRow w0) (.slice ap n cp) preds) (hpl : preds.length = n) (hin : ∀ t : Nat, ∀ p ∈ preds.getD t [], 0 ≤ p ∧ p < (n : Int)) (hn : n ≤ 1000) (fuel : Nat) : EnterOk w0 N n preds (.slice ap n cp) vo vd fuel := by
  induction fuel with
  | zero => intro b w inn hS hb0 hb1 hfu; omega
  | succ fuel ih => exact fun b w inn hS hb0 hb1 hfu => enter_step w0 N n preds ap cp vo vd hp hpl hin hn fuel ih b w inn hS hb0 hb1 hfu
end Go.Proofs.Ytengmgdnpojfjaa
