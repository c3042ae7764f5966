/-
  The contract of the closure of 'loop': a block is entered, and all that leads to it.
  The contracts of 'loop' and 'depths': in how many loops a block is.
  The contract of 'depths': in how many loops each block is.
-/
import Derived.Test.YtanhfkpphdbaaaaF2
import Derived.Test.YtanhfkpphdbaaaaF1
import Derived.Laws.EntriesVeiled
import Derived.Test.YtanhfkpphdbaaaaF3k
namespace Go.Proofs.Ytanhfkpphdbaaaa
open Go.RowKit
set_option linter.unusedVariables false

theorem enter_fold {n : Nat} (k : Nat) (pred : Nat → List Int) (h : ∀ (b : Nat) (s : Nat → Bool) i, s i = true → enterM pred k b s i = true) : ∀ (l : List Int) (s : Nat → Bool) i, s i = true → l.foldl (fun s p => enterM pred k p.toNat s) s i = true
  | [], _, _, h2 => h2
  | p :: r, s, i, h2 => enter_fold (n := n) k pred h r _ i (h p.toNat s i h2)
theorem enter_mono (pred : Nat → List Int) : ∀ (k b : Nat) (s : Nat → Bool) (i : Nat), s i = true → enterM pred k b s i = true
  | 0, _, _, _, h => h
  | k + 1, b, s, i, h => by
    unfold enterM
    split
    · exact h
    · refine enter_fold (n := 0) k pred (fun b s i h => enter_mono pred k b s i h) _ _ i ?_
      unfold upB
      split
      · rfl
      · exact h

/-- What the closure looks at. -/
structure LSt (w0 : World) (N n : Nat) (vp vo vd : Value) (w : World) (inn : Nat → Bool) : Prop where
  g : w.rowIs N 72 3 (fun i => if i = 0 then vp else if i = 1 then vo else vd)
  rr : w.rowIs (N + 1) 4 n (fun i => .bool (inn i))
  pr : w.rowIs (N + 1 + 1) 79 1 (fun _ => .slice (some ⟨N + 1, 0, none⟩) n n)
  pv : w.rowIs (N + 1 + 1 + 1) 99 1 (fun _ => .func (.func 56) #[] #[.pointer (some ⟨N + 1 + 1, 0, none⟩), .pointer (some ⟨N, 0, none⟩), .pointer (some ⟨N + 1 + 1 + 1, 0, none⟩)])
  low : Below N w0 w
  base : w0.heap.size = N
theorem LSt.below {w0 : World} {N n : Nat} {vp vo vd : Value} {w w' : World} {inn : Nat → Bool} (h : LSt w0 N n vp vo vd w inn) (hb : Below w.heap.size w w') : LSt w0 N n vp vo vd w' inn :=
  ⟨h.g.of_block (hb.block _ h.g.lt), h.rr.of_block (hb.block _ h.rr.lt), h.pr.of_block (hb.block _ h.pr.lt), h.pv.of_block (hb.block _ h.pv.lt), h.low.trans (hb.mono (by have := h.g.lt; omega)), h.base⟩
theorem LSt.mark {w0 : World} {N n : Nat} {vp vo vd : Value} {w : World} {inn : Nat → Bool} (h : LSt w0 N n vp vo vd w inn) (b : Nat) : LSt w0 N n vp vo vd (w.setCell ⟨N + 1, b, none⟩ (.bool true)) (upB inn b true) := by
  refine ⟨h.g.setOther (by simp; try omega) _, (h.rr.set b _).congr fun j hj => ?_, h.pr.setOther (by simp; try omega) _, h.pv.setOther (by simp; try omega) _, h.low.setCell (by simp) _, h.base⟩
  unfold upB
  split <;> rfl

/-- The closure does what the plain one does, with so much fuel. -/
def EnterOk (w0 : World) (N n : Nat) (preds : List (List Int)) (vp vo vd : Value) (fuel : Nat) : Prop := ∀ (b : Int) (w : World) (inn : Nat → Bool), LSt w0 N n vp vo vd w inn → 0 ≤ b → b < n → unb n inn + 1 ≤ fuel →
    Calls Try.prog 56 #[.int .i64 b, .pointer (some ⟨N + 1 + 1, 0, none⟩), .pointer (some ⟨N, 0, none⟩), .pointer (some ⟨N + 1 + 1 + 1, 0, none⟩)] w fun e w' => e = .returned (.tuple #[]) ∧ LSt w0 N n vp vo vd w' (enterM (predL preds) fuel b.toNat inn)

set_option maxHeartbeats 4000000 in
theorem enter_step (w0 : World) (N n : Nat) (preds : List (List Int)) (ap : Option Addr) (cp : Nat) (vo vd : Value) (hp : SlOf w0 1 (RRow w0) (.slice ap n cp) preds) (hpl : preds.length = n) (hin : ∀ t : Nat, ∀ p ∈ preds.getD t [], 0 ≤ p ∧ p < (n : Int)) (hn : n ≤ 1000)
    (fuel : Nat) (IH : Hid (EnterOk w0 N n preds (.slice ap n cp) vo vd fuel)) (b : Int) (w : World) (inn : Nat → Bool) (hS : LSt w0 N n (.slice ap n cp) vo vd w inn) (hb0 : 0 ≤ b) (hb1 : b < n) (hfu : unb n inn + 1 ≤ fuel + 1) :
    Calls Try.prog 56 #[.int .i64 b, .pointer (some ⟨N + 1 + 1, 0, none⟩), .pointer (some ⟨N, 0, none⟩), .pointer (some ⟨N + 1 + 1 + 1, 0, none⟩)] w fun e w' => e = .returned (.tuple #[]) ∧ LSt w0 N n (.slice ap n cp) vo vd w' (enterM (predL preds) (fuel + 1) b.toNat inn) := by
  have hbn : b.toNat < n := by omega
  have a1 := hS.pr.cell (i := 0) (by omega)
  have a2 : w.cell? ⟨N + 1, b.toNat, none⟩ = some (.bool (inn b.toNat)) := hS.rr.cell (i := b.toNat) hbn
  have a3 := hS.rr.frozen b.toNat
  cases hi : inn b.toNat
  · rw [hi] at a2
    obtain ⟨bp, offp, al, cl, rfl, hbp, hcp, hl, hll⟩ := rows_at hp b hb0 (by rw [hpl]; omega)
    unfold longest at hll
    have HEN : Hid (enterM (predL preds) (fuel + 1) b.toNat inn = (preds.getD b.toNat []).foldl (fun s p => enterM (predL preds) fuel p.toNat s) (upB inn b.toNat true)) := by
      show _ = _
      rw [enterM, if_neg (by simp [hi])]
      rfl
    have HIN : Hid (∀ p ∈ preds.getD b.toNat [], 0 ≤ p ∧ p < (n : Int)) := hin b.toNat
    generalize preds.getD b.toNat [] = l at *
    have HL : Hid (SlOf w0 1 RInt (.slice al l.length cl) l) := hl
    have hM := hS.mark b.toNat
    have hup := unb_up hbn hi
    have HUP : Hid (unb n (upB inn b.toNat true) + 1 ≤ fuel) := by show _ ≤ _; omega
    have hbpN : bp < N := by rw [← hS.base]; exact hbp
    obtain ⟨W, hW⟩ : ∃ W, W = w.setCell ⟨N + 1, b.toNat, none⟩ (.bool true) := ⟨_, rfl⟩
    have HW : Hid (W = w.setCell ⟨N + 1, b.toNat, none⟩ (.bool true)) := hW
    rw [← hW] at hM
    have HM : Hid (LSt w0 N n (.slice (some ⟨bp, offp, none⟩) n cp) vo vd W (upB inn b.toNat true)) := hM
    have g0 : W.cell? ⟨N, 0, none⟩ = some (.slice (some ⟨bp, offp, none⟩) n cp) := hM.g.cell (i := 0) (by omega)
    have p1 := (hM.low.cell (p := ⟨bp, offp + b.toNat, none⟩) hbpN).trans hcp
    clear hp hl hM hup hS hW hcp hi hin hfu hpl
    go_enter Try.func56, Try.ntmps56
    go_upto_region 2 with fail
    rw [← HW.out]
    clear a1 a2 a3 HW
    go_wp2_with fail
    clear g0 p1
    go_loopw [20] (fun i wr => ∃ j : Nat, j ≤ l.length ∧ i = .int .i64 j ∧ Hid (LSt w0 N n (.slice (some ⟨bp, offp, none⟩) n cp) vo vd wr ((l.take j).foldl (fun s p => enterM (predL preds) fuel p.toNat s) (upB inn b.toNat true)))) (fun i _ => l.length - (intOf i).toNat)
    case atStart => exact ⟨0, Nat.zero_le _, rfl, HM⟩
    case round =>
      obtain ⟨j, hj, rfl, HI⟩ := hrel
      by_cases hjl : j < l.length
      · obtain ⟨bl, offl, rfl, hbl, hcl⟩ := ints_at HL.out j (by omega) (by omega)
        have e : l.getD (j : Int).toNat 0 = l[j] := by simp [List.getD, hjl]
        rw [e, Int.toNat_natCast] at hcl
        have c1 := (HI.out.low.cell (p := ⟨bl, offl + j, none⟩) (by rw [← HI.out.base]; exact hbl)).trans hcl
        have hpj := HIN.out l[j] (List.getElem_mem hjl)
        have HST : Hid ((l.take (j + 1)).foldl (fun s p => enterM (predL preds) fuel p.toNat s) (upB inn b.toNat true) = enterM (predL preds) fuel l[j].toNat ((l.take j).foldl (fun s p => enterM (predL preds) fuel p.toNat s) (upB inn b.toNat true))) := by
          show _ = _
          rw [take_step _ _ _ _ hjl]
        have hun : unb n ((l.take j).foldl (fun s p => enterM (predL preds) fuel p.toNat s) (upB inn b.toNat true)) + 1 ≤ fuel := by
          have h1 := unb_mono (n := n) (fun i hi => enter_fold (n := n) fuel (predL preds) (fun b s i h => enter_mono (predL preds) fuel b s i h) (l.take j) (upB inn b.toNat true) i hi)
          have := HUP.out
          omega
        generalize l[j] = p at *
        generalize (l.take j).foldl (fun s p => enterM (predL preds) fuel p.toNat s) (upB inn b.toNat true) = s at *
        have p0 := hpj.1
        have p1 := hpj.2
        have HC := IH.out p wr s HI.out p0 p1 hun
        have r1 := HI.out.pv.cell (i := 0) (by omega)
        clear hpj e hcl hun HI
        go_wp2_with fail
        refine HC.mono ?_
        clear HC
        rintro e w2 ⟨rfl, hS2⟩
        have HR : Hid (LSt w0 N n (.slice (some ⟨bp, offp, none⟩) n cp) vo vd w2 ((l.take (j + 1)).foldl (fun s p => enterM (predL preds) fuel p.toNat s) (upB inn b.toNat true))) := by
          rw [HST.out]; exact hS2
        clear hS2
        go_wp2
        go_roundw
        case rel => exact ⟨j + 1, by omega, by go_num, HR⟩
        case measure => simp [intOf]; omega
      · have HR : Hid (LSt w0 N n (.slice (some ⟨bp, offp, none⟩) n cp) vo vd wr (enterM (predL preds) (fuel + 1) b.toNat inn)) := by
          have h := HI.out
          rw [List.take_of_length_le (by omega)] at h
          rw [HEN.out]
          exact h
        clear HI
        go_wp2
        first | go_end0 | refine bodyPost_ret (results_none rfl _ _ _) rfl ?_
        exact ⟨rfl, HR.out⟩
  · rw [hi] at a2
    have HR : Hid (LSt w0 N n (.slice ap n cp) vo vd w (enterM (predL preds) (fuel + 1) b.toNat inn)) := by
      show LSt _ _ _ _ _ _ _ _
      rw [enterM, if_pos hi]
      exact hS
    clear hS hi hfu hp hin
    go_enter Try.func56, Try.ntmps56
    go_wp2
    first | go_end0 | refine bodyPost_ret (results_none rfl _ _ _) rfl ?_
    exact ⟨rfl, HR.out⟩
theorem enter_any (w0 : World) (N n : Nat) (preds : List (List Int)) (ap : Option Addr) (cp : Nat) (vo vd : Value) (hp : SlOf w0 1 (RRow w0) (.slice ap n cp) preds) (hpl : preds.length = n) (hin : ∀ t : Nat, ∀ p ∈ preds.getD t [], 0 ≤ p ∧ p < (n : Int)) (hn : n ≤ 1000) (fuel : Nat) : EnterOk w0 N n preds (.slice ap n cp) vo vd fuel := by
  induction fuel with
  | zero => intro b w inn hS hb0 hb1 hfu; omega
  | succ fuel ih => exact fun b w inn hS hb0 hb1 hfu => enter_step w0 N n preds ap cp vo vd hp hpl hin hn fuel ih b w inn hS hb0 hb1 hfu
end Go.Proofs.Ytanhfkpphdbaaaa
namespace Go.Proofs.Ytanhfkpphdbaaaa
open Go.RowKit
set_option linter.unusedVariables false

theorem loop_mono (pred : Nat → List Int) (idom : Nat → Int) (n head : Nat) (k : Nat) : ∀ (l : List Int) (s : Nat → Bool) i, s i = true → l.foldl (fun s p => if domM idom (n + 1) head p then enterM pred k p.toNat (upB s head true) else s) s i = true
  | [], _, _, h => h
  | p :: r, s, i, h => by
    refine loop_mono pred idom n head k r _ i ?_
    show (if domM idom (n + 1) head p then enterM pred k p.toNat (upB s head true) else s) i = true
    split
    · refine enter_mono pred k _ _ i ?_
      unfold upB
      split
      · rfl
      · exact h
    · exact h
theorem unb_le (n : Nat) (s : Nat → Bool) : unb n s ≤ n := by
  have := List.countP_le_length (p := fun i : Nat => !s i) (l := List.range n)
  rw [List.length_range] at this
  exact this

set_option maxHeartbeats 4000000 in
theorem loop_any (n : Nat) (rank idom : Nat → Int) (preds : List (List Int)) (ap ao ad : Option Addr) (cp co cd no : Nat) (head : Nat) (w : World) (hno : no = n) (hp : SlOf w 1 (RRow w) (.slice ap n cp) preds) (hpl : preds.length = n) (hin : ∀ t : Nat, ∀ p ∈ preds.getD t [], 0 ≤ p ∧ p < (n : Int))
    (hid : SlOf w 1 RInt (.slice ad n cd) (fnL n idom)) (hk : DomOk n rank idom) (hh : head < n) (hn : n ≤ 1000) :
    Calls Try.prog 43 #[.agg #[.slice ap n cp, .slice ao n co, .slice ad n cd], .int .i64 head] w fun e w' => e = .returned (.slice (some ⟨w.heap.size + 1, 0, none⟩) n n) ∧ w'.rowIs (w.heap.size + 1) 4 n (fun i => .bool (loopM (predL preds) idom n head i)) ∧ Below w.heap.size w w' := by
  have hmk := run_make_row' (P := Try.prog) 79 4 (.bool false) 1 Try.underlying79 (by kernel_rfl) rfl .i64 .i64 n (by omega) (by omega)
  have hmf : ∀ (fn : Go.Fn) (first cap : Array Value) (w : World), (Instr.makeFunc fn first cap).run Try.prog w = .ok (.func fn first cap) w := fun _ _ _ _ => rfl
  have HE : Hid (EnterOk w w.heap.size n preds (.slice ap n cp) (.slice ao n co) (.slice ad n cd) (n + 1)) := enter_any w w.heap.size n preds ap cp _ _ hp hpl hin hn (n + 1)
  obtain ⟨bp, offp, al, cl, rfl, hbp, hcp, hl, hll⟩ := rows_at hp (head : Int) (by omega) (by rw [hpl]; omega)
  rw [Int.toNat_natCast] at hcp hl hll
  unfold longest at hll
  have HIN : Hid (∀ p ∈ preds.getD head [], 0 ≤ p ∧ p < (n : Int)) := hin head
  have HLM : Hid (loopM (predL preds) idom n head = (preds.getD head []).foldl (fun s p => if domM idom (n + 1) head p then enterM (predL preds) (n + 1) p.toNat (upB s head true) else s) fun _ => false) := rfl
  generalize preds.getD head [] = l at *
  have HL : Hid (SlOf w 1 RInt (.slice al l.length cl) l) := hl
  have HID : Hid (SlOf w 1 RInt (.slice ad n cd) (fnL n idom) ∧ DomOk n rank idom) := ⟨hid, hk⟩
  obtain ⟨W, hW⟩ : ∃ W, W = (((w.alloc (.cells #[.slice (some ⟨bp, offp, none⟩) n cp, .slice ao n co, .slice ad n cd] 72)).alloc (.cells (madeCells #[.bool false] n) 4)).alloc (.cells #[.slice (some ⟨w.heap.size + 1, 0, none⟩) n n] 79)).alloc (.cells #[.func (.func 56) #[] #[.pointer (some ⟨w.heap.size + 1 + 1, 0, none⟩), .pointer (some ⟨w.heap.size, 0, none⟩), .pointer (some ⟨w.heap.size + 1 + 1 + 1, 0, none⟩)]] 99) := ⟨_, rfl⟩
  have hst : LSt w w.heap.size n (.slice (some ⟨bp, offp, none⟩) n cp) (.slice ao n co) (.slice ad n cd) W (fun _ => false) := by
    rw [hW]
    have one : ∀ (V : World) (x : Value) (t : Nat), (V.alloc (.cells #[x] t)).rowIs V.heap.size t 1 (fun _ => x) := fun V x t => World.rowIs_alloc V #[x] t (fun _ => x) (fun i hi => by simp at hi; subst hi; rfl)
    have r0 : (w.alloc (.cells #[.slice (some ⟨bp, offp, none⟩) n cp, .slice ao n co, .slice ad n cd] 72)).rowIs w.heap.size 72 3 (fun i => if i = 0 then .slice (some ⟨bp, offp, none⟩) n cp else if i = 1 then .slice ao n co else .slice ad n cd) :=
      World.rowIs_alloc _ _ _ _ fun i hi => by
        simp at hi
        match i, hi with | 0, _ => rfl | 1, _ => rfl | 2, _ => rfl
    obtain ⟨V1, hV1⟩ : ∃ V1, V1 = w.alloc (.cells #[.slice (some ⟨bp, offp, none⟩) n cp, .slice ao n co, .slice ad n cd] 72) := ⟨_, rfl⟩
    have z1 : V1.heap.size = w.heap.size + 1 := by rw [hV1]; simp
    have b1 : Below w.heap.size w V1 := by rw [hV1]; exact (Below.refl _ _).alloc (Nat.le_refl _) _
    rw [← hV1] at r0 ⊢
    clear hV1
    have r1 := World.rowIs_made V1 (.bool false) n 4
    rw [z1] at r1
    obtain ⟨V2, hV2⟩ : ∃ V2, V2 = V1.alloc (.cells (madeCells #[.bool false] n) 4) := ⟨_, rfl⟩
    have z2 : V2.heap.size = w.heap.size + 1 + 1 := by rw [hV2]; simp [z1]
    replace r0 := r0.alloc (.cells (madeCells #[.bool false] n) 4)
    have b2 : Below w.heap.size w V2 := by rw [hV2]; exact b1.alloc (by omega) _
    rw [← hV2] at r0 r1 ⊢
    clear hV2
    have r2 := one V2 (.slice (some ⟨w.heap.size + 1, 0, none⟩) n n) 79
    rw [z2] at r2
    obtain ⟨V3, hV3⟩ : ∃ V3, V3 = V2.alloc (.cells #[.slice (some ⟨w.heap.size + 1, 0, none⟩) n n] 79) := ⟨_, rfl⟩
    have z3 : V3.heap.size = w.heap.size + 1 + 1 + 1 := by rw [hV3]; simp [z2]
    replace r0 := r0.alloc (.cells #[.slice (some ⟨w.heap.size + 1, 0, none⟩) n n] 79)
    replace r1 := r1.alloc (.cells #[.slice (some ⟨w.heap.size + 1, 0, none⟩) n n] 79)
    have b3 : Below w.heap.size w V3 := by rw [hV3]; exact b2.alloc (by omega) _
    rw [← hV3] at r0 r1 r2 ⊢
    clear hV3
    have r3 := one V3 (.func (.func 56) #[] #[.pointer (some ⟨w.heap.size + 1 + 1, 0, none⟩), .pointer (some ⟨w.heap.size, 0, none⟩), .pointer (some ⟨w.heap.size + 1 + 1 + 1, 0, none⟩)]) 99
    rw [z3] at r3
    exact ⟨r0.alloc _, r1.alloc _, r2.alloc _, r3, b3.alloc (by omega) _, rfl⟩
  have HW : Hid (W = (((w.alloc (.cells #[.slice (some ⟨bp, offp, none⟩) n cp, .slice ao n co, .slice ad n cd] 72)).alloc (.cells (madeCells #[.bool false] n) 4)).alloc (.cells #[.slice (some ⟨w.heap.size + 1, 0, none⟩) n n] 79)).alloc (.cells #[.func (.func 56) #[] #[.pointer (some ⟨w.heap.size + 1 + 1, 0, none⟩), .pointer (some ⟨w.heap.size, 0, none⟩), .pointer (some ⟨w.heap.size + 1 + 1 + 1, 0, none⟩)]] 99)) := hW
  have HS0 : Hid (LSt w w.heap.size n (.slice (some ⟨bp, offp, none⟩) n cp) (.slice ao n co) (.slice ad n cd) W (fun _ => false)) := hst
  have g0 : W.cell? ⟨w.heap.size, 0, none⟩ = some (.slice (some ⟨bp, offp, none⟩) n cp) := hst.g.cell (i := 0) (by omega)
  have p0 := (hst.low.cell (p := ⟨bp, offp + head, none⟩) hbp).trans hcp
  clear hW hst hp hl hid hk hin hcp hpl
  go_enter Try.func43, Try.ntmps43
  go_upto_region 4 with fail
  rw [← HW.out]
  go_wp2_with fail
  clear g0 p0 hmk hmf HW
  go_loopw [20] (fun i wr => ∃ j : Nat, j ≤ l.length ∧ i = .int .i64 j ∧ Hid (LSt w w.heap.size n (.slice (some ⟨bp, offp, none⟩) n cp) (.slice ao n co) (.slice ad n cd) wr ((l.take j).foldl (fun s p => if domM idom (n + 1) head p then enterM (predL preds) (n + 1) p.toNat (upB s head true) else s) fun _ => false))) (fun i _ => l.length - (intOf i).toNat)
  case atStart => exact ⟨0, Nat.zero_le _, rfl, HS0⟩
  case round =>
    obtain ⟨j, hj, rfl, HI⟩ := hrel
    by_cases hjl : j < l.length
    · obtain ⟨bl, offl, rfl, hbl, hcl⟩ := ints_at HL.out j (by omega) (by omega)
      have e : l.getD (j : Int).toNat 0 = l[j] := by simp [List.getD, hjl]
      rw [e, Int.toNat_natCast] at hcl
      have c1 := (HI.out.low.cell (p := ⟨bl, offl + j, none⟩) hbl).trans hcl
      have hpj := HIN.out l[j] (List.getElem_mem hjl)
      have HST : Hid ((l.take (j + 1)).foldl (fun s p => if domM idom (n + 1) head p then enterM (predL preds) (n + 1) p.toNat (upB s head true) else s) (fun _ => false) = if domM idom (n + 1) head l[j] then enterM (predL preds) (n + 1) l[j].toNat (upB ((l.take j).foldl (fun s p => if domM idom (n + 1) head p then enterM (predL preds) (n + 1) p.toNat (upB s head true) else s) fun _ => false) head true) else ((l.take j).foldl (fun s p => if domM idom (n + 1) head p then enterM (predL preds) (n + 1) p.toNat (upB s head true) else s) fun _ => false)) := by
        show _ = _
        rw [take_step _ _ _ _ hjl]
      generalize l[j] = p at *
      generalize (l.take j).foldl (fun s p => if domM idom (n + 1) head p then enterM (predL preds) (n + 1) p.toNat (upB s head true) else s) (fun _ => false) = s at *
      have p0 := hpj.1
      have p1 := hpj.2
      obtain ⟨r, hr⟩ : ∃ r, domM idom (n + 1) head p = r := ⟨_, rfl⟩
      have hdl : SlOf wr 1 RInt (.slice ad n cd) (fnL n idom) := HID.out.1.below HI.out.low fun _ _ h => h
      have HC := dominates_is n rank idom (.slice (some ⟨bp, offp, none⟩) n cp) (.slice ao n co) ad cd head p r hr wr hdl HID.out.2 (by omega) p1 hn
      rw [hr] at HST
      have g0 : _ = some _ := HI.out.g.cell (i := 0) (by omega)
      have g1 : _ = some _ := HI.out.g.cell (i := 1) (by omega)
      have g2 : _ = some _ := HI.out.g.cell (i := 2) (by omega)
      clear hpj e hcl hr hdl
      go_wp2_with fail
      refine HC.mono ?_
      clear HC g0 g1 g2 c1
      rintro e w2 ⟨rfl, hb2⟩
      have hS2 := HI.out.below hb2
      cases r
      · have HR : Hid (LSt w w.heap.size n (.slice (some ⟨bp, offp, none⟩) n cp) (.slice ao n co) (.slice ad n cd) w2 ((l.take (j + 1)).foldl (fun s p => if domM idom (n + 1) head p then enterM (predL preds) (n + 1) p.toNat (upB s head true) else s) fun _ => false)) := by
          rw [HST.out]; exact hS2
        clear hS2 HI hb2 HST
        go_wp2
        go_roundw
        case rel => exact ⟨j + 1, by omega, by go_num, HR⟩
        case measure => simp [intOf]; omega
      · have s1 := hS2.pr.cell (i := 0) (by omega)
        have s2 := hS2.rr.cell (i := head) hh
        have s3 := hS2.rr.frozen head
        have hM := hS2.mark head
        have s4 := hM.pv.cell (i := 0) (by omega)
        have HC := HE.out p _ _ hM p0 p1 (by have := unb_le n (upB s head true); omega)
        clear hS2 hM HI hb2
        go_wp2_with fail
        refine HC.mono ?_
        clear HC s1 s2 s3 s4
        rintro e w3 ⟨rfl, hS3⟩
        have HR : Hid (LSt w w.heap.size n (.slice (some ⟨bp, offp, none⟩) n cp) (.slice ao n co) (.slice ad n cd) w3 ((l.take (j + 1)).foldl (fun s p => if domM idom (n + 1) head p then enterM (predL preds) (n + 1) p.toNat (upB s head true) else s) fun _ => false)) := by
          rw [HST.out]; exact hS3
        clear hS3 HST
        go_wp2
        go_roundw
        case rel => exact ⟨j + 1, by omega, by go_num, HR⟩
        case measure => simp [intOf]; omega
    · have HR : Hid (LSt w w.heap.size n (.slice (some ⟨bp, offp, none⟩) n cp) (.slice ao n co) (.slice ad n cd) wr (loopM (predL preds) idom n head)) := by
        have h := HI.out
        rw [List.take_of_length_le (by omega)] at h
        rw [HLM.out]
        exact h
      have s1 := HR.out.pr.cell (i := 0) (by omega)
      clear HI
      go_wp2
      go_ret
      exact ⟨rfl, HR.out.rr, HR.out.low⟩
end Go.Proofs.Ytanhfkpphdbaaaa
namespace Go.Proofs.Ytanhfkpphdbaaaa
open Go.RowKit
set_option linter.unusedVariables false

theorem loop_is (n : Nat) (rank idom : Nat → Int) (preds : List (List Int)) (ap ao ad : Option Addr) (cp co cd : Nat) (head : Nat) (M : Nat) (w : World) (hM : w.heap.size = M) (hp : SlOf w 1 (RRow w) (.slice ap n cp) preds) (hpl : preds.length = n) (hin : ∀ t : Nat, ∀ p ∈ preds.getD t [], 0 ≤ p ∧ p < (n : Int))
    (hid : SlOf w 1 RInt (.slice ad n cd) (fnL n idom)) (hk : DomOk n rank idom) (hh : head < n) (hn : n ≤ 1000) :
    Calls Try.prog 43 #[.agg #[.slice ap n cp, .slice ao n co, .slice ad n cd], .int .i64 head] w fun e w' => e = .returned (.slice (some ⟨M + 1, 0, none⟩) n n) ∧ w'.rowIs (M + 1) 4 n (fun i => .bool (loopM (predL preds) idom n head i)) ∧ Below w.heap.size w w' := by
  subst hM; exact loop_any n rank idom preds ap ao ad cp co cd n head w rfl hp hpl hin hid hk hh hn

def dC (pred : Nat → List Int) (idom : Nat → Int) (n h b : Nat) : Int := ((List.range h).countP fun x => loopM pred idom n x b : Nat)
theorem dC_succ (pred : Nat → List Int) (idom : Nat → Int) (n h b : Nat) : dC pred idom n (h + 1) b = dC pred idom n h b + (if loopM pred idom n h b then 1 else 0) := by
  unfold dC
  rw [List.range_succ, List.countP_append]
  cases hb : loopM pred idom n h b <;> simp [hb]
theorem dC_le (pred : Nat → List Int) (idom : Nat → Int) (n h b : Nat) : 0 ≤ dC pred idom n h b ∧ dC pred idom n h b ≤ h := by
  unfold dC
  have := List.countP_le_length (p := fun x => loopM pred idom n x b) (l := List.range h)
  rw [List.length_range] at this
  omega
/-- The graph in its box, the depths in their row. -/
structure DSt (w0 : World) (N n : Nat) (vp vo vd : Value) (w : World) (d : Nat → Int) : Prop where
  g : w.rowIs N 72 3 (fun i => if i = 0 then vp else if i = 1 then vo else vd)
  rr : w.rowIs (N + 1) 3 n (fun i => .int .i64 (d i))
  low : Below N w0 w
theorem DSt.below {w0 : World} {N n : Nat} {vp vo vd : Value} {w w' : World} {d : Nat → Int} (h : DSt w0 N n vp vo vd w d) (hb : Below w.heap.size w w') : DSt w0 N n vp vo vd w' d :=
  ⟨h.g.of_block (hb.block _ h.g.lt), h.rr.of_block (hb.block _ h.rr.lt), h.low.trans (hb.mono (by have := h.g.lt; omega))⟩
theorem DSt.congr {w0 : World} {N n : Nat} {vp vo vd : Value} {w : World} {d d' : Nat → Int} (h : DSt w0 N n vp vo vd w d) (he : ∀ i, i < n → d i = d' i) : DSt w0 N n vp vo vd w d' := ⟨h.g, h.rr.congr fun i hi => by rw [he i hi], h.low⟩
theorem DSt.put {w0 : World} {N n : Nat} {vp vo vd : Value} {w : World} {d : Nat → Int} (h : DSt w0 N n vp vo vd w d) (b : Nat) (x : Int) : DSt w0 N n vp vo vd (w.setCell ⟨N + 1, b, none⟩ (.int .i64 x)) (upI d b x) := by
  refine ⟨h.g.setOther (by simp; try omega) _, (h.rr.set b _).congr fun j hj => ?_, h.low.setCell (by simp) _⟩
  unfold upI
  split <;> rfl

set_option maxHeartbeats 4000000 in
theorem depths_any (n : Nat) (rank idom : Nat → Int) (preds : List (List Int)) (ap ao ad : Option Addr) (cp co cd : Nat) (w : World) (hp : SlOf w 1 (RRow w) (.slice ap n cp) preds) (hpl : preds.length = n) (hin : ∀ t : Nat, ∀ p ∈ preds.getD t [], 0 ≤ p ∧ p < (n : Int))
    (hid : SlOf w 1 RInt (.slice ad n cd) (fnL n idom)) (hk : DomOk n rank idom) (hn : n ≤ 1000) :
    Calls Try.prog 27 #[.agg #[.slice ap n cp, .slice ao n co, .slice ad n cd]] w fun e w' => e = .returned (.slice (some ⟨w.heap.size + 1, 0, none⟩) n n) ∧ w'.rowIs (w.heap.size + 1) 3 n (fun i => .int .i64 (depthM (predL preds) idom n i)) ∧ Below w.heap.size w w' := by
  have hmk := run_make_row' (P := Try.prog) 29 3 (.int .i64 0) 8 Try.underlying29 (by kernel_rfl) rfl .i64 .i64 n (by omega) (by omega)
  have HP : Hid (SlOf w 1 (RRow w) (.slice ap n cp) preds ∧ preds.length = n ∧ (∀ t : Nat, ∀ p ∈ preds.getD t [], 0 ≤ p ∧ p < (n : Int)) ∧ SlOf w 1 RInt (.slice ad n cd) (fnL n idom) ∧ DomOk n rank idom) := ⟨hp, hpl, hin, hid, hk⟩
  obtain ⟨W, hW⟩ : ∃ W, W = (w.alloc (.cells #[.slice ap n cp, .slice ao n co, .slice ad n cd] 72)).alloc (.cells (madeCells #[.int .i64 0] n) 3) := ⟨_, rfl⟩
  have hst : DSt w w.heap.size n (.slice ap n cp) (.slice ao n co) (.slice ad n cd) W (dC (predL preds) idom n 0) := by
    rw [hW]
    have r0 : (w.alloc (.cells #[.slice ap n cp, .slice ao n co, .slice ad n cd] 72)).rowIs w.heap.size 72 3 (fun i => if i = 0 then .slice ap n cp else if i = 1 then .slice ao n co else .slice ad n cd) :=
      World.rowIs_alloc _ _ _ _ fun i hi => by
        simp at hi
        match i, hi with | 0, _ => rfl | 1, _ => rfl | 2, _ => rfl
    have r1 := World.rowIs_made (w.alloc (.cells #[.slice ap n cp, .slice ao n co, .slice ad n cd] 72)) (.int .i64 0) n 3
    have e : (w.alloc (.cells #[.slice ap n cp, .slice ao n co, .slice ad n cd] 72)).heap.size = w.heap.size + 1 := by simp
    rw [e] at r1
    exact ⟨r0.alloc _, r1, ((Below.refl _ _).alloc (Nat.le_refl _) _).alloc (by simp) _⟩
  have HW : Hid (W = (w.alloc (.cells #[.slice ap n cp, .slice ao n co, .slice ad n cd] 72)).alloc (.cells (madeCells #[.int .i64 0] n) 3)) := hW
  have HS0 : Hid (DSt w w.heap.size n (.slice ap n cp) (.slice ao n co) (.slice ad n cd) W (dC (predL preds) idom n 0)) := hst
  clear hW hst hp hpl hin hid hk
  go_enter Try.func27, Try.ntmps27
  go_upto_region 2 with fail
  rw [← HW.out]
  clear hmk HW
  go_wp2_with fail
  go_loopw [13] (fun i wr => ∃ h : Nat, h ≤ n ∧ i = .int .i64 h ∧ Hid (DSt w w.heap.size n (.slice ap n cp) (.slice ao n co) (.slice ad n cd) wr (dC (predL preds) idom n h))) (fun i _ => n - (intOf i).toNat)
  case atStart => exact ⟨0, Nat.zero_le _, rfl, HS0⟩
  case round =>
    obtain ⟨h, hh, rfl, HI⟩ := hrel
    by_cases hlt : h < n
    · obtain ⟨M, hM⟩ : ∃ M, wr.heap.size = M := ⟨_, rfl⟩
      have hlow := HI.out.low
      have HC := loop_is n rank idom preds ap ao ad cp co cd h M wr hM (HP.out.1.below hlow (RRow.below hlow)) HP.out.2.1 HP.out.2.2.1 (HP.out.2.2.2.1.below hlow fun _ _ h => h) HP.out.2.2.2.2 hlt hn
      have g0 : _ = some _ := HI.out.g.cell (i := 0) (by omega)
      have g1 : _ = some _ := HI.out.g.cell (i := 1) (by omega)
      have g2 : _ = some _ := HI.out.g.cell (i := 2) (by omega)
      have lM : w.heap.size + 1 < M := by rw [← hM]; exact HI.out.rr.lt
      clear hM hlow
      go_wp2_with fail
      refine HC.mono ?_
      clear HC g0 g1 g2
      rintro e w2 ⟨rfl, hrow, hb2⟩
      have HI2 : Hid (DSt w w.heap.size n (.slice ap n cp) (.slice ao n co) (.slice ad n cd) w2 (fun b => if b < 0 then dC (predL preds) idom n (h + 1) b else dC (predL preds) idom n h b) ∧ w2.rowIs (M + 1) 4 n (fun i => .bool (loopM (predL preds) idom n h i))) := ⟨(HI.out.below hb2).congr fun i hi => by simp, hrow⟩
      clear hrow hb2 HI
      go_wp2_with fail
      go_loopw [20] (fun i wr => ∃ j : Nat, j ≤ n ∧ i = .int .i64 j ∧ Hid (DSt w w.heap.size n (.slice ap n cp) (.slice ao n co) (.slice ad n cd) wr (fun b => if b < j then dC (predL preds) idom n (h + 1) b else dC (predL preds) idom n h b) ∧ wr.rowIs (M + 1) 4 n (fun i => .bool (loopM (predL preds) idom n h i)))) (fun i _ => n - (intOf i).toNat)
      case atStart => exact ⟨0, Nat.zero_le _, rfl, HI2⟩
      case round =>
        obtain ⟨j, hj, rfl, HJ⟩ := hrel
        by_cases hjl : j < n
        · have s1 : wr.cell? ⟨M + 1, j, none⟩ = some (.bool (loopM (predL preds) idom n h j)) := HJ.out.2.cell hjl
          have hsucc := dC_succ (predL preds) idom n h j
          cases hb : loopM (predL preds) idom n h j
          · rw [hb] at s1 hsucc
            have HN : Hid (DSt w w.heap.size n (.slice ap n cp) (.slice ao n co) (.slice ad n cd) wr (fun b => if b < j + 1 then dC (predL preds) idom n (h + 1) b else dC (predL preds) idom n h b) ∧ wr.rowIs (M + 1) 4 n (fun i => .bool (loopM (predL preds) idom n h i))) := by
              refine ⟨HJ.out.1.congr fun i hi => ?_, HJ.out.2⟩
              by_cases e : i = j
              · subst e
                rw [if_neg (by omega), if_pos (by omega), hsucc]
                simp
              · by_cases e2 : i < j
                · rw [if_pos e2, if_pos (by omega)]
                · rw [if_neg e2, if_neg (by omega)]
            clear hb hsucc HJ
            go_wp2
            go_roundw
            case rel => exact ⟨j + 1, by omega, by go_num, HN⟩
            case measure => simp [intOf]; omega
          · rw [hb] at s1 hsucc
            have s2 : wr.cell? ⟨w.heap.size + 1, j, none⟩ = some (.int .i64 (dC (predL preds) idom n h j)) := by
              have := HJ.out.1.rr.cell hjl
              simp only [Nat.lt_irrefl, if_false] at this
              exact this
            have s3 := HJ.out.1.rr.frozen j
            have hle := dC_le (predL preds) idom n h j
            have HN : Hid (DSt w w.heap.size n (.slice ap n cp) (.slice ao n co) (.slice ad n cd) (wr.setCell ⟨w.heap.size + 1, j, none⟩ (.int .i64 (dC (predL preds) idom n h j + 1))) (fun b => if b < j + 1 then dC (predL preds) idom n (h + 1) b else dC (predL preds) idom n h b) ∧ (wr.setCell ⟨w.heap.size + 1, j, none⟩ (.int .i64 (dC (predL preds) idom n h j + 1))).rowIs (M + 1) 4 n (fun i => .bool (loopM (predL preds) idom n h i))) := by
              refine ⟨(HJ.out.1.put j _).congr fun i hi => ?_, HJ.out.2.setOther (by simp; omega) _⟩
              unfold upI
              by_cases e : i = j
              · subst e
                rw [if_pos rfl, if_pos (by omega), hsucc]
                simp
              · rw [if_neg e]
                show (if i < j then _ else _) = _
                by_cases e2 : i < j
                · rw [if_pos e2, if_pos (by omega)]
                · rw [if_neg e2, if_neg (by omega)]
            generalize dC (predL preds) idom n h j = x at *
            have hwr : IntKind.i64.wrap (x + 1) = x + 1 := by rw [IntKind.wrap_i64]; omega
            clear hb hsucc HJ
            go_wp2
            go_roundw
            case rel => exact ⟨j + 1, by omega, by go_num, HN⟩
            case measure => simp [intOf]; omega
        · have HN : Hid (DSt w w.heap.size n (.slice ap n cp) (.slice ao n co) (.slice ad n cd) wr (dC (predL preds) idom n (h + 1))) := HJ.out.1.congr fun i hi => by rw [if_pos (by omega)]
          clear HJ
          go_wp2
          go_roundw
          case rel => exact ⟨h + 1, by omega, by go_num, HN⟩
          case measure => simp [intOf]; omega
    · have he : h = n := by omega
      have HN : Hid (DSt w w.heap.size n (.slice ap n cp) (.slice ao n co) (.slice ad n cd) wr (depthM (predL preds) idom n)) := by
        have h2 := HI.out
        rw [he] at h2
        exact h2
      clear HI he
      go_wp2
      go_ret
      exact ⟨rfl, HN.out.rr, HN.out.low⟩
end Go.Proofs.Ytanhfkpphdbaaaa
