/-
  The contracts of 'loop' and 'depths': in how many loops a block is.
-/
import Derived.Test.YtengmgdnpojfjaaFlowL
import Derived.Test.YtengmgdnpojfjaaFlowK
namespace Go.Proofs.Ytengmgdnpojfjaa
open Go.RowKit
set_option linter.unusedVariables false

theorem loop_mono (pred : Nat → List Int) (idom : Nat → Int) (n head : Nat) (k : Nat) : ∀ (l : List Int) (s : Nat → Bool) i, s i = true → l.foldl (fun s p => if domM idom (n + 1) head p then enterM pred k p.toNat (upB s head true) else s) s i = true
  | [], _, _, h => h
  | p :: r, s, i, h => by
    refine loop_mono pred idom n head k r _ i ?_
    show (if domM idom (n + 1) head p then enterM pred k p.toNat (upB s head true) else s) i = true
    split
    · refine enter_mono pred k _ _ i ?_
      unfold upB
      split
      · rfl
      · exact h
    · exact h
theorem unb_le (n : Nat) (s : Nat → Bool) : unb n s ≤ n := by
  have := List.countP_le_length (p := fun i : Nat => !s i) (l := List.range n)
  rw [List.length_range] at this
  exact this

set_option maxHeartbeats 4000000 in
theorem loop_any (n : Nat) (rank idom : Nat → Int) (preds : List (List Int)) (ap ao ad : Option Addr) (cp co cd no : Nat) (head : Nat) (w : World) (hno : no = n) (hp : SlOf w 1 (RRow w) (.slice ap n cp) preds) (hpl : preds.length = n) (hin : ∀ t : Nat, ∀ p ∈ preds.getD t [], 0 ≤ p ∧ p < (n : Int))
    (hid : SlOf w 1 RInt (.slice ad n cd) (fnL n idom)) (hk : DomOk n rank idom) (hh : head < n) (hn : n ≤ 1000) :
    Calls Try.prog 46 #[.agg #[.slice ap n cp, .slice ao n co, .slice ad n cd], .int .i64 head] w fun e w' => e = .returned (.slice (some ⟨w.heap.size + 1, 0, none⟩) n n) ∧ w'.rowIs (w.heap.size + 1) 4 n (fun i => .bool (loopM (predL preds) idom n head i)) ∧ Below w.heap.size w w' := by
  have hmk := run_make_row' (P := Try.prog) 62 4 (.bool false) 1 Try.underlying62 (by kernel_rfl) rfl .i64 .i64 n (by omega) (by omega)
  have hmf : ∀ (fn : Go.Fn) (first cap : Array Value) (w : World), (Instr.makeFunc fn first cap).run Try.prog w = .ok (.func fn first cap) w := fun _ _ _ _ => rfl
  have HE : Hid (EnterOk w w.heap.size n preds (.slice ap n cp) (.slice ao n co) (.slice ad n cd) (n + 1)) := enter_any w w.heap.size n preds ap cp _ _ hp hpl hin hn (n + 1)
  obtain ⟨bp, offp, al, cl, rfl, hbp, hcp, hl, hll⟩ := rows_at hp (head : Int) (by omega) (by rw [hpl]; omega)
  rw [Int.toNat_natCast] at hcp hl hll
  unfold longest at hll
  have HIN : Hid (∀ p ∈ preds.getD head [], 0 ≤ p ∧ p < (n : Int)) := hin head
  have HLM : Hid (loopM (predL preds) idom n head = (preds.getD head []).foldl (fun s p => if domM idom (n + 1) head p then enterM (predL preds) (n + 1) p.toNat (upB s head true) else s) fun _ => false) := rfl
  generalize preds.getD head [] = l at *
  have HL : Hid (SlOf w 1 RInt (.slice al l.length cl) l) := hl
  have HID : Hid (SlOf w 1 RInt (.slice ad n cd) (fnL n idom) ∧ DomOk n rank idom) := ⟨hid, hk⟩
  obtain ⟨W, hW⟩ : ∃ W, W = (((w.alloc (.cells #[.slice (some ⟨bp, offp, none⟩) n cp, .slice ao n co, .slice ad n cd] 59)).alloc (.cells (madeCells #[.bool false] n) 4)).alloc (.cells #[.slice (some ⟨w.heap.size + 1, 0, none⟩) n n] 62)).alloc (.cells #[.func (.func 63) #[] #[.pointer (some ⟨w.heap.size + 1 + 1, 0, none⟩), .pointer (some ⟨w.heap.size, 0, none⟩), .pointer (some ⟨w.heap.size + 1 + 1 + 1, 0, none⟩)]] 87) := ⟨_, rfl⟩
  have hst : LSt w w.heap.size n (.slice (some ⟨bp, offp, none⟩) n cp) (.slice ao n co) (.slice ad n cd) W (fun _ => false) := by
    rw [hW]
    have one : ∀ (V : World) (x : Value) (t : Nat), (V.alloc (.cells #[x] t)).rowIs V.heap.size t 1 (fun _ => x) := fun V x t => World.rowIs_alloc V #[x] t (fun _ => x) (fun i hi => by simp at hi; subst hi; rfl)
    have r0 : (w.alloc (.cells #[.slice (some ⟨bp, offp, none⟩) n cp, .slice ao n co, .slice ad n cd] 59)).rowIs w.heap.size 59 3 (fun i => if i = 0 then .slice (some ⟨bp, offp, none⟩) n cp else if i = 1 then .slice ao n co else .slice ad n cd) :=
      World.rowIs_alloc _ _ _ _ fun i hi => by
        simp at hi
        match i, hi with | 0, _ => rfl | 1, _ => rfl | 2, _ => rfl
    obtain ⟨V1, hV1⟩ : ∃ V1, V1 = w.alloc (.cells #[.slice (some ⟨bp, offp, none⟩) n cp, .slice ao n co, .slice ad n cd] 59) := ⟨_, rfl⟩
    have z1 : V1.heap.size = w.heap.size + 1 := by rw [hV1]; simp
    have b1 : Below w.heap.size w V1 := by rw [hV1]; exact (Below.refl _ _).alloc (Nat.le_refl _) _
    rw [← hV1] at r0 ⊢
    clear hV1
    have r1 := World.rowIs_made V1 (.bool false) n 4
    rw [z1] at r1
    obtain ⟨V2, hV2⟩ : ∃ V2, V2 = V1.alloc (.cells (madeCells #[.bool false] n) 4) := ⟨_, rfl⟩
    have z2 : V2.heap.size = w.heap.size + 1 + 1 := by rw [hV2]; simp [z1]
    replace r0 := r0.alloc (.cells (madeCells #[.bool false] n) 4)
    have b2 : Below w.heap.size w V2 := by rw [hV2]; exact b1.alloc (by omega) _
    rw [← hV2] at r0 r1 ⊢
    clear hV2
    have r2 := one V2 (.slice (some ⟨w.heap.size + 1, 0, none⟩) n n) 62
    rw [z2] at r2
    obtain ⟨V3, hV3⟩ : ∃ V3, V3 = V2.alloc (.cells #[.slice (some ⟨w.heap.size + 1, 0, none⟩) n n] 62) := ⟨_, rfl⟩
    have z3 : V3.heap.size = w.heap.size + 1 + 1 + 1 := by rw [hV3]; simp [z2]
    replace r0 := r0.alloc (.cells #[.slice (some ⟨w.heap.size + 1, 0, none⟩) n n] 62)
    replace r1 := r1.alloc (.cells #[.slice (some ⟨w.heap.size + 1, 0, none⟩) n n] 62)
    have b3 : Below w.heap.size w V3 := by rw [hV3]; exact b2.alloc (by omega) _
    rw [← hV3] at r0 r1 r2 ⊢
    clear hV3
    have r3 := one V3 (.func (.func 63) #[] #[.pointer (some ⟨w.heap.size + 1 + 1, 0, none⟩), .pointer (some ⟨w.heap.size, 0, none⟩), .pointer (some ⟨w.heap.size + 1 + 1 + 1, 0, none⟩)]) 87
    rw [z3] at r3
    exact ⟨r0.alloc _, r1.alloc _, r2.alloc _, r3, b3.alloc (by omega) _, rfl⟩
  have HW : Hid (W = (((w.alloc (.cells #[.slice (some ⟨bp, offp, none⟩) n cp, .slice ao n co, .slice ad n cd] 59)).alloc (.cells (madeCells #[.bool false] n) 4)).alloc (.cells #[.slice (some ⟨w.heap.size + 1, 0, none⟩) n n] 62)).alloc (.cells #[.func (.func 63) #[] #[.pointer (some ⟨w.heap.size + 1 + 1, 0, none⟩), .pointer (some ⟨w.heap.size, 0, none⟩), .pointer (some ⟨w.heap.size + 1 + 1 + 1, 0, none⟩)]] 87)) := hW
  have HS0 : Hid (LSt w w.heap.size n (.slice (some ⟨bp, offp, none⟩) n cp) (.slice ao n co) (.slice ad n cd) W (fun _ => false)) := hst
  have g0 : W.cell? ⟨w.heap.size, 0, none⟩ = some (.slice (some ⟨bp, offp, none⟩) n cp) := hst.g.cell (i := 0) (by omega)
  have p0 := (hst.low.cell (p := ⟨bp, offp + head, none⟩) hbp).trans hcp
  clear hW hst hp hl hid hk hin hcp hpl
  go_enter Try.func46, Try.ntmps46
  go_upto_region 4 with fail
  rw [← HW.out]
  go_wp2_with fail
  clear g0 p0 hmk hmf HW
  go_loopw [20] (fun i wr => ∃ j : Nat, j ≤ l.length ∧ i = .int .i64 j ∧ Hid (LSt w w.heap.size n (.slice (some ⟨bp, offp, none⟩) n cp) (.slice ao n co) (.slice ad n cd) wr ((l.take j).foldl (fun s p => if domM idom (n + 1) head p then enterM (predL preds) (n + 1) p.toNat (upB s head true) else s) fun _ => false))) (fun i _ => l.length - (intOf i).toNat)
  case atStart => exact ⟨0, Nat.zero_le _, rfl, HS0⟩
  case round =>
    obtain ⟨j, hj, rfl, HI⟩ := hrel
    by_cases hjl : j < l.length
    · obtain ⟨bl, offl, rfl, hbl, hcl⟩ := ints_at HL.out j (by omega) (by omega)
      have e : l.getD (j : Int).toNat 0 = l[j] := by simp [List.getD, hjl]
      rw [e, Int.toNat_natCast] at hcl
      have c1 := (HI.out.low.cell (p := ⟨bl, offl + j, none⟩) hbl).trans hcl
      have hpj := HIN.out l[j] (List.getElem_mem hjl)
      have HST : Hid ((l.take (j + 1)).foldl (fun s p => if domM idom (n + 1) head p then enterM (predL preds) (n + 1) p.toNat (upB s head true) else s) (fun _ => false) = if domM idom (n + 1) head l[j] then enterM (predL preds) (n + 1) l[j].toNat (upB ((l.take j).foldl (fun s p => if domM idom (n + 1) head p then enterM (predL preds) (n + 1) p.toNat (upB s head true) else s) fun _ => false) head true) else ((l.take j).foldl (fun s p => if domM idom (n + 1) head p then enterM (predL preds) (n + 1) p.toNat (upB s head true) else s) fun _ => false)) := by
        show _ = _
        rw [take_step _ _ _ _ hjl]
      generalize l[j] = p at *
      generalize (l.take j).foldl (fun s p => if domM idom (n + 1) head p then enterM (predL preds) (n + 1) p.toNat (upB s head true) else s) (fun _ => false) = s at *
      have p0 := hpj.1
      have p1 := hpj.2
      obtain ⟨r, hr⟩ : ∃ r, domM idom (n + 1) head p = r := ⟨_, rfl⟩
      have hdl : SlOf wr 1 RInt (.slice ad n cd) (fnL n idom) := HID.out.1.below HI.out.low fun _ _ h => h
      have HC := dominates_is n rank idom (.slice (some ⟨bp, offp, none⟩) n cp) (.slice ao n co) ad cd head p r hr wr hdl HID.out.2 (by omega) p1 hn
      rw [hr] at HST
      have g0 : _ = some _ := HI.out.g.cell (i := 0) (by omega)
      have g1 : _ = some _ := HI.out.g.cell (i := 1) (by omega)
      have g2 : _ = some _ := HI.out.g.cell (i := 2) (by omega)
      clear hpj e hcl hr hdl
      go_wp2_with fail
      refine HC.mono ?_
      clear HC g0 g1 g2 c1
      rintro e w2 ⟨rfl, hb2⟩
      have hS2 := HI.out.below hb2
      cases r
      · have HR : Hid (LSt w w.heap.size n (.slice (some ⟨bp, offp, none⟩) n cp) (.slice ao n co) (.slice ad n cd) w2 ((l.take (j + 1)).foldl (fun s p => if domM idom (n + 1) head p then enterM (predL preds) (n + 1) p.toNat (upB s head true) else s) fun _ => false)) := by
          rw [HST.out]; exact hS2
        clear hS2 HI hb2 HST
        go_wp2
        go_roundw
        case rel => exact ⟨j + 1, by omega, by go_num, HR⟩
        case measure => simp [intOf]; omega
      · have s1 := hS2.pr.cell (i := 0) (by omega)
        have s2 := hS2.rr.cell (i := head) hh
        have s3 := hS2.rr.frozen head
        have hM := hS2.mark head
        have s4 := hM.pv.cell (i := 0) (by omega)
        have HC := HE.out p _ _ hM p0 p1 (by have := unb_le n (upB s head true); omega)
        clear hS2 hM HI hb2
        go_wp2_with fail
        refine HC.mono ?_
        clear HC s1 s2 s3 s4
        rintro e w3 ⟨rfl, hS3⟩
        have HR : Hid (LSt w w.heap.size n (.slice (some ⟨bp, offp, none⟩) n cp) (.slice ao n co) (.slice ad n cd) w3 ((l.take (j + 1)).foldl (fun s p => if domM idom (n + 1) head p then enterM (predL preds) (n + 1) p.toNat (upB s head true) else s) fun _ => false)) := by
          rw [HST.out]; exact hS3
        clear hS3 HST
        go_wp2
        go_roundw
        case rel => exact ⟨j + 1, by omega, by go_num, HR⟩
        case measure => simp [intOf]; omega
    · have HR : Hid (LSt w w.heap.size n (.slice (some ⟨bp, offp, none⟩) n cp) (.slice ao n co) (.slice ad n cd) wr (loopM (predL preds) idom n head)) := by
        have h := HI.out
        rw [List.take_of_length_le (by omega)] at h
        rw [HLM.out]
        exact h
      have s1 := HR.out.pr.cell (i := 0) (by omega)
      clear HI
      go_wp2
      go_ret
      exact ⟨rfl, HR.out.rr, HR.out.low⟩
end Go.Proofs.Ytengmgdnpojfjaa
