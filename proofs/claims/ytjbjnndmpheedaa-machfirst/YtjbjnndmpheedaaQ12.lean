/-
  The contract of 'filled': all places have junk.
-/
import Derived.Test.YtjbjnndmpheedaaQ9
import Derived.Laws.Tables
import Derived.Laws.Rows
namespace Go.Proofs.Ytjbjnndmpheedaa
open Go.RowKit
set_option linter.unusedVariables false

section
variable {P : Program} {o : Oper} {a : Act} {w : World} {K : Act → World → Prop} {Q : Exit → Act → World → Prop}
/-- A struct of many cells is put together. -/
theorem wp_buildM (t : TypeId) (parts : Array (Nat × Operand)) (ho : o.op = .build t parts)
    (d : Option Tmp) (hd : o.dst = d) (cells : Array Value) (hf : P.built t (parts.map fun (i, x) => (i, a.eval x)).toList = some cells)
    (h : K (a.put d (.agg cells)) w) : o.wp P a w K Q := by
  subst hd
  refine wp_build t parts ho (by rw [hf]; rfl) ?_
  rw [hf]
  exact h
/-- It is laid into a block as a whole. -/
theorem wp_rowM (ty : TypeId) (x y : Operand) (ho : o.op = .store ty x y)
    (hd : o.dst = none) (g : Nat) (cells : Array Value) (hx : a.eval x = .pointer (some ⟨g, 0, none⟩)) (hy : a.eval y = .agg cells)
    (t : TypeId) (old : Array Value) (hg : w.heap[g]? = some (.cells old t (0, 0))) (hi : (P.info? ty).map (·.size) = some cells.size)
    (hold : old.size = cells.size) (h1 : cells.all (·.oneCell') = true) (w' : World) (hw : w.setRow g cells = w')
    (h : K a w') : o.wp P a w K Q :=
  wp_store_row ty x y ho g cells hx hy t old hg hi hold h1 (by rw [hd, hw]; exact h)
end
theorem setRow_new (w : World) (old cs : Array Value) (t : Nat) (z : Nat) (hz : w.heap.size = z) : (w.alloc (.cells old t)).setRow z cs = w.alloc (.cells cs t) := by
  subst hz
  have e : ((w.alloc (.cells old t)).setRow w.heap.size cs).heap = (w.alloc (.cells cs t)).heap := by
    unfold World.setRow World.alloc
    simp only
    apply Array.ext_getElem?
    intro i
    rw [Array.getElem?_modify, Array.getElem?_push, Array.getElem?_push]
    by_cases h : i = w.heap.size
    · subst h
      simp
    · rw [if_neg (Ne.symm h), if_neg h, if_neg h]
  exact congrArg (fun h => ({ w with heap := h } : World)) e
theorem heap_new (w : World) (cs : Array Value) (t : Nat) (z : Nat) (hz : w.heap.size = z) : (w.alloc (.cells cs t)).heap[z]? = some (.cells cs t (0, 0)) := by
  subst hz
  unfold World.alloc
  simp
--CUT0
set_option maxRecDepth 8000 in
set_option maxHeartbeats 8000000 in
theorem filled_any (N fr m0 m1 nj cj : Nat) (aj : Option Addr) (jl : List Int) (w : World) (hN : w.heap.size = N) (hfr : fr ≤ 1000) (hm0 : m0 ≤ 10) (hm1 : m1 ≤ 10) (hj : SlOf w 1 RInt (.slice aj nj cj) jl) (hl : jl.length = nj) (hnj : nj ≤ 64) :
    Calls Try.prog 27 #[.agg #[.int .i64 (m0 : Int), .int .i64 (m1 : Int)], .int .i64 (fr : Int), .slice aj nj cj] w fun e w' => ∃ cs : Array Value, e = .returned (.agg cs) ∧ cs.size = 25 ∧ (∀ i, i < 25 → cs[i]? = some (stF (N + 2) fr aj nj cj (fillM jl m0 m1 fr) i)) ∧ w'.rowIs (N + 2) 3 fr (fun i => .int .i64 ((fillM jl m0 m1 fr).sl i)) ∧ Below N w w' ∧ NxOk jl (fillM jl m0 m1 fr) := by
  have hmk := run_make_row' (P := Try.prog) 22 3 (.int .i64 0) 8 Try.underlying22 (by kernel_rfl) rfl .i64 .i64 fr (by omega) (by omega)
  obtain ⟨W2, hW2⟩ : ∃ W2, W2 = (w.alloc (.cells #[.int .i64 (m0 : Int), .int .i64 (m1 : Int)] 28)).alloc (.cells #[.int .i64 0, .int .i64 0, .int .i64 0, .int .i64 0, .int .i64 0, .int .i64 0, .int .i64 0, .int .i64 0, .int .i64 0, .int .i64 0, .int .i64 0, .int .i64 0, .int .i64 0, .int .i64 0, .int .i64 0, .int .i64 0, .int .i64 0, .int .i64 0, .int .i64 0, .int .i64 0, .int .i64 0, .int .i64 0, .slice none 0 0, .slice none 0 0, .int .i64 0] 85) := ⟨_, rfl⟩
  have z2 : W2.heap.size = N + 2 := by rw [hW2]; simp [hN]
  have z3 : (W2.alloc (.cells (madeCells #[.int .i64 0] fr) 3)).heap.size = N + 3 := by simp [z2]
  obtain ⟨W, hW⟩ : ∃ W, W = (W2.alloc (.cells (madeCells #[.int .i64 0] fr) 3)).alloc (.cells #[.int .i64 0, .int .i64 0, .int .i64 0, .int .i64 0, .int .i64 0, .int .i64 0, .int .i64 0, .int .i64 0, .int .i64 0, .int .i64 0, .int .i64 0, .int .i64 0, .int .i64 0, .int .i64 0, .int .i64 0, .int .i64 0, .int .i64 0, .int .i64 0, .int .i64 0, .int .i64 0, .int .i64 0, .int .i64 0, .slice (some ⟨N + 2, 0, none⟩) fr fr, .slice aj nj cj, .int .i64 0] 85) := ⟨_, rfl⟩
  have hst : FlS w N fr m0 m1 aj nj cj jl s00 W := fl_start N fr m0 m1 nj cj aj jl w W hN hl (by rw [hW, hW2])
  have HW2 : Hid (W2 = (w.alloc (.cells #[.int .i64 (m0 : Int), .int .i64 (m1 : Int)] 28)).alloc (.cells #[.int .i64 0, .int .i64 0, .int .i64 0, .int .i64 0, .int .i64 0, .int .i64 0, .int .i64 0, .int .i64 0, .int .i64 0, .int .i64 0, .int .i64 0, .int .i64 0, .int .i64 0, .int .i64 0, .int .i64 0, .int .i64 0, .int .i64 0, .int .i64 0, .int .i64 0, .int .i64 0, .int .i64 0, .int .i64 0, .slice none 0 0, .slice none 0 0, .int .i64 0] 85)) := hW2
  have hrow : ((W2.alloc (.cells (madeCells #[.int .i64 0] fr) 3)).alloc (.cells #[.int .i64 0, .int .i64 0, .int .i64 0, .int .i64 0, .int .i64 0, .int .i64 0, .int .i64 0, .int .i64 0, .int .i64 0, .int .i64 0, .int .i64 0, .int .i64 0, .int .i64 0, .int .i64 0, .int .i64 0, .int .i64 0, .int .i64 0, .int .i64 0, .int .i64 0, .int .i64 0, .int .i64 0, .int .i64 0, .slice none 0 0, .slice none 0 0, .int .i64 0] 85)).setRow (N + 3) #[.int .i64 0, .int .i64 0, .int .i64 0, .int .i64 0, .int .i64 0, .int .i64 0, .int .i64 0, .int .i64 0, .int .i64 0, .int .i64 0, .int .i64 0, .int .i64 0, .int .i64 0, .int .i64 0, .int .i64 0, .int .i64 0, .int .i64 0, .int .i64 0, .int .i64 0, .int .i64 0, .int .i64 0, .int .i64 0, .slice (some ⟨N + 2, 0, none⟩) fr fr, .slice aj nj cj, .int .i64 0] = W := by rw [hW]; exact setRow_new _ _ _ _ _ z3
  have hhp : ((W2.alloc (.cells (madeCells #[.int .i64 0] fr) 3)).alloc (.cells #[.int .i64 0, .int .i64 0, .int .i64 0, .int .i64 0, .int .i64 0, .int .i64 0, .int .i64 0, .int .i64 0, .int .i64 0, .int .i64 0, .int .i64 0, .int .i64 0, .int .i64 0, .int .i64 0, .int .i64 0, .int .i64 0, .int .i64 0, .int .i64 0, .int .i64 0, .int .i64 0, .int .i64 0, .int .i64 0, .slice none 0 0, .slice none 0 0, .int .i64 0] 85)).heap[N + 3]? = some (.cells #[.int .i64 0, .int .i64 0, .int .i64 0, .int .i64 0, .int .i64 0, .int .i64 0, .int .i64 0, .int .i64 0, .int .i64 0, .int .i64 0, .int .i64 0, .int .i64 0, .int .i64 0, .int .i64 0, .int .i64 0, .int .i64 0, .int .i64 0, .int .i64 0, .int .i64 0, .int .i64 0, .int .i64 0, .int .i64 0, .slice none 0 0, .slice none 0 0, .int .i64 0] 85 (0, 0)) := heap_new _ _ _ _ z3
  have HS0 : Hid (FlS w N fr m0 m1 aj nj cj jl s00 W) := hst
  have HN : Hid (w.heap.size = N) := hN
  have HROW : Hid (((W2.alloc (.cells (madeCells #[.int .i64 0] fr) 3)).alloc (.cells #[.int .i64 0, .int .i64 0, .int .i64 0, .int .i64 0, .int .i64 0, .int .i64 0, .int .i64 0, .int .i64 0, .int .i64 0, .int .i64 0, .int .i64 0, .int .i64 0, .int .i64 0, .int .i64 0, .int .i64 0, .int .i64 0, .int .i64 0, .int .i64 0, .int .i64 0, .int .i64 0, .int .i64 0, .int .i64 0, .slice none 0 0, .slice none 0 0, .int .i64 0] 85)).setRow (N + 3) #[.int .i64 0, .int .i64 0, .int .i64 0, .int .i64 0, .int .i64 0, .int .i64 0, .int .i64 0, .int .i64 0, .int .i64 0, .int .i64 0, .int .i64 0, .int .i64 0, .int .i64 0, .int .i64 0, .int .i64 0, .int .i64 0, .int .i64 0, .int .i64 0, .int .i64 0, .int .i64 0, .int .i64 0, .int .i64 0, .slice (some ⟨N + 2, 0, none⟩) fr fr, .slice aj nj cj, .int .i64 0] = W) := hrow
  have HHP : Hid (((W2.alloc (.cells (madeCells #[.int .i64 0] fr) 3)).alloc (.cells #[.int .i64 0, .int .i64 0, .int .i64 0, .int .i64 0, .int .i64 0, .int .i64 0, .int .i64 0, .int .i64 0, .int .i64 0, .int .i64 0, .int .i64 0, .int .i64 0, .int .i64 0, .int .i64 0, .int .i64 0, .int .i64 0, .int .i64 0, .int .i64 0, .int .i64 0, .int .i64 0, .int .i64 0, .int .i64 0, .slice none 0 0, .slice none 0 0, .int .i64 0] 85)).heap[N + 3]? = some (.cells #[.int .i64 0, .int .i64 0, .int .i64 0, .int .i64 0, .int .i64 0, .int .i64 0, .int .i64 0, .int .i64 0, .int .i64 0, .int .i64 0, .int .i64 0, .int .i64 0, .int .i64 0, .int .i64 0, .int .i64 0, .int .i64 0, .int .i64 0, .int .i64 0, .int .i64 0, .int .i64 0, .int .i64 0, .int .i64 0, .slice none 0 0, .slice none 0 0, .int .i64 0] 85 (0, 0))) := hhp
  have HJ : Hid (SlOf w 1 RInt (.slice aj nj cj) jl ∧ jl.length = nj ∧ nj ≤ 64) := ⟨hj, hl, hnj⟩
  have k0 : W.cell? ⟨N, 0, none⟩ = some (.int .i64 (m0 : Int)) := hst.mc.cell (i := 0) (by omega)
  have k1 : W.cell? ⟨N, 1, none⟩ = some (.int .i64 (m1 : Int)) := hst.mc.cell (i := 1) (by omega)
  have lj : jl.length ≤ 64 := by omega
  clear hW hW2 hst hN hj hl z3 hrow hhp
  go_enter Try.func27, Try.ntmps27
  go_upto_region 1 with fail
  rw [← HW2.out, HN.out]
  clear HW2
  --CUT1
  apply wp_region_lit
  iterate 10 go_step
  refine wp_buildM 85 _ rfl (some 15) rfl #[.int .i64 0, .int .i64 0, .int .i64 0, .int .i64 0, .int .i64 0, .int .i64 0, .int .i64 0, .int .i64 0, .int .i64 0, .int .i64 0, .int .i64 0, .int .i64 0, .int .i64 0, .int .i64 0, .int .i64 0, .int .i64 0, .int .i64 0, .int .i64 0, .int .i64 0, .int .i64 0, .int .i64 0, .int .i64 0, .slice (some ⟨N + 2, 0, none⟩) fr fr, .slice aj nj cj, .int .i64 0] (by kernel_rfl) ?_
  try simp only [Act.put, List.setIfInBounds_toArray, List.set_cons_zero, List.set_cons_succ]
  --CUT3
  iterate 3 go_step
  --CUT4
  iterate 2 go_step
  --CUT5
  refine wp_rowM 85 _ _ rfl rfl (N + 3) #[.int .i64 0, .int .i64 0, .int .i64 0, .int .i64 0, .int .i64 0, .int .i64 0, .int .i64 0, .int .i64 0, .int .i64 0, .int .i64 0, .int .i64 0, .int .i64 0, .int .i64 0, .int .i64 0, .int .i64 0, .int .i64 0, .int .i64 0, .int .i64 0, .int .i64 0, .int .i64 0, .int .i64 0, .int .i64 0, .slice (some ⟨N + 2, 0, none⟩) fr fr, .slice aj nj cj, .int .i64 0] rfl rfl 85 _ HHP.out (by kernel_rfl) rfl (by kernel_rfl) W HROW.out ?_
  try simp only [Act.put, List.setIfInBounds_toArray, List.set_cons_zero, List.set_cons_succ]
  clear HROW HHP z2 hmk
  --CUT6
  go_wp2_with fail
  clear k0 k1
  --CUT7
  go_loopw [18] (fun i wr => ∃ c : Nat, c ≤ 2 ∧ i = .int .i64 c ∧ Hid (FlS w N fr m0 m1 aj nj cj jl (fillR jl m0 m1 c) wr)) (fun i _ => 2 - (intOf i).toNat)
  case atStart => exact ⟨0, Nat.zero_le _, rfl, HS0⟩
  case round =>
    clear HS0
    obtain ⟨c, hc, rfl, HI⟩ := hrel
    by_cases hlt : c < 2
    · have hci : (c : Int) < 2 := by omega
      have hix : ∀ w : World, (Instr.index 26 (.agg #[.int .i64 (m0 : Int), .int .i64 (m1 : Int)]) (.int .i64 (c : Int))).run Try.prog w = .ok (.int .i64 (mcOf m0 m1 c : Int)) w := by
        have h01 : c = 0 ∨ c = 1 := by omega
        rcases h01 with rfl | rfl
        · exact fun _ => by kernel_rfl
        · exact fun _ => by kernel_rfl
      --CUT8
      obtain ⟨mc, hmc⟩ : ∃ mc, mcOf m0 m1 c = mc := ⟨_, rfl⟩
      have hmb : mc ≤ 10 := by rw [← hmc]; unfold mcOf; split <;> assumption
      rw [hmc] at hix
      have HMC : Hid (fillR jl m0 m1 (c + 1) = (regPl c (mc + 1)).foldl (junkAt jl) (fillR jl m0 m1 c)) := by show _ = _; rw [← hmc]; rfl
      have HI0 : Hid (FlS w N fr m0 m1 aj nj cj jl ((regPl c 0).foldl (junkAt jl) (fillR jl m0 m1 c)) wr) := HI.out
      clear HI hmc
      --CUT9
      go_wp2_with fail
      go_loopw [24] (fun i wr => ∃ r : Nat, r ≤ mc + 1 ∧ i = .int .i64 r ∧ Hid (FlS w N fr m0 m1 aj nj cj jl ((regPl c r).foldl (junkAt jl) (fillR jl m0 m1 c)) wr)) (fun i _ => mc + 1 - (intOf i).toNat)
      case atStart => exact ⟨0, Nat.zero_le _, rfl, HI0⟩
      case round =>
        clear HI0
        obtain ⟨r, hr, rfl, HI⟩ := hrel
        by_cases hrt : r < mc + 1
        · have hri : (r : Int) < (mc : Int) + 1 := by omega
          have HSU : Hid ((regPl c (r + 1)).foldl (junkAt jl) (fillR jl m0 m1 c) = junkAt jl ((regPl c r).foldl (junkAt jl) (fillR jl m0 m1 c)) ⟨1, (c : Int), (r : Int)⟩) := regPl_succ _ _ _ _
          generalize (regPl c r).foldl (junkAt jl) (fillR jl m0 m1 c) = s at *
          have k2 := HI.out.below ((Below.refl wr.heap.size wr).drew)
          have HC := k2.junk HJ.out.1 HN.out HJ.out.2.1 HJ.out.2.2
          have hcn : c < 2 + 1 := by omega
          have hrn : r < 11 := by omega
          have hrI : (r : Int) < 11 := by omega
          have wc1 : IntKind.i64.wrap (c : Int) = (c : Int) := by rw [IntKind.wrap_i64]; omega
          have wr1 : IntKind.i64.wrap (r : Int) = (r : Int) := by rw [IntKind.wrap_i64]; omega
          clear HI k2
          go_upto_region 8 with fail
          --CUTA
          refine wp_region_X (fun _ => True) 99 (by kernel_rfl) trivial (fun hHeld => ?_)
          refine wpXt (v := ?_) 0 rfl (by kernel_rfl) (fun _ _ _ h => h) (by rfl) ?_ hHeld ?_
          rotate_left
          · intro w' hSw
            go_simp <;> with_reducible rfl
          try simp only [Act.put, List.setIfInBounds_toArray, List.set_cons_zero, List.set_cons_succ]
          refine wpXt (v := ?_) 1 rfl (by kernel_rfl) (fun _ _ _ h => h) (by rfl) ?_ hHeld ?_
          rotate_left
          · intro w' hSw
            go_simp <;> with_reducible rfl
          try simp only [Act.put, List.setIfInBounds_toArray, List.set_cons_zero, List.set_cons_succ]
          refine wpXt (v := ?_) 3 rfl (by kernel_rfl) (fun _ _ _ h => h) (by rfl) ?_ hHeld ?_
          rotate_left
          · intro w' hSw
            go_simp <;> with_reducible rfl
          try simp only [Act.put, List.setIfInBounds_toArray, List.set_cons_zero, List.set_cons_succ]
          refine wpXt (v := ?_) 4 rfl (by kernel_rfl) (fun _ _ _ h => h) (by rfl) ?_ hHeld ?_
          rotate_left
          · intro w' hSw
            go_simp <;> with_reducible rfl
          try simp only [Act.put, List.setIfInBounds_toArray, List.set_cons_zero, List.set_cons_succ]
          refine wpXs 2 rfl (by kernel_rfl) (fun K hK => ?_)
          go_simp
          refine HC.mono ?_
          clear HC
          rintro e w6 ⟨rfl, k6, z6⟩
          refine hK.out _ _ trivial (fun hHeld => ?_)
          clear hK K
          try simp only [Act.put, List.setIfInBounds_toArray, List.set_cons_zero, List.set_cons_succ]
          have e1 : w6.cell? ⟨N + 3, c * 11 + r, none⟩ = some (.int .i64 (s.reg (c * 11 + r))) := by rw [k6.bx.cell (i := c * 11 + r) (by omega), stF_reg (by omega)]
          have e2 := k6.bx.frozen (c * 11 + r)
          have e3 := k6.bx.lt
          have HN6 : Hid (FlS w N fr m0 m1 aj nj cj jl (junkAt jl s ⟨1, (c : Int), (r : Int)⟩) (w6.setCell ⟨N + 3, c * 11 + r, none⟩ (.int .i64 (jl.getD s.nx 0)))) := by
            have := k6.setR c r hlt (by omega) (jl.getD s.nx 0)
            unfold junkAt
            exact this
          clear k6 z6
          refine wpXs 5 rfl (by kernel_rfl) (fun K hK => ?_)
          go_simp
          refine hK.out _ _ trivial (fun hHeld => ?_)
          clear hK K
          try simp only [Act.put, List.setIfInBounds_toArray, List.set_cons_zero, List.set_cons_succ]
          refine wpXs 6 rfl (by kernel_rfl) (fun K hK => ?_)
          go_simp
          refine hK.out _ _ trivial (fun hHeld => ?_)
          clear hK K
          try simp only [Act.put, List.setIfInBounds_toArray, List.set_cons_zero, List.set_cons_succ]
          refine wpAnyX_done (by kernel_rfl) ?_ _

          --CUTB
          rw [← HSU.out] at HN6
          clear HSU e1 e2 e3
          go_wp2
          go_roundw
          case rel => exact ⟨r + 1, by omega, by go_num, HN6⟩
          case measure => simp [intOf]; omega
        · have HE : Hid (FlS w N fr m0 m1 aj nj cj jl (fillR jl m0 m1 (c + 1)) wr) := by
            have h := HI.out
            have e : r = mc + 1 := by omega
            rw [e, ← HMC.out] at h
            exact h
          clear HI
          --CUTC
          go_wp2
          go_roundw
          case rel => exact ⟨c + 1, by omega, by go_num, HE⟩
          case measure => simp [intOf]; omega
    · have HI0 : Hid (FlS w N fr m0 m1 aj nj cj jl ((slPl 0).foldl (junkAt jl) (fillR jl m0 m1 2)) wr) := by
        have h := HI.out
        have e : c = 2 := by omega
        rw [e] at h
        exact h
      have e22 := HI.out.sl22
      clear HI
      --CUTD
      go_wp2_with fail
      clear e22
      go_loopw [38] (fun i wr => ∃ r : Nat, r ≤ fr ∧ i = .int .i64 r ∧ Hid (FlS w N fr m0 m1 aj nj cj jl ((slPl r).foldl (junkAt jl) (fillR jl m0 m1 2)) wr)) (fun i _ => fr - (intOf i).toNat)
      case atStart => exact ⟨0, Nat.zero_le _, rfl, HI0⟩
      case round =>
        clear HI0
        obtain ⟨r, hr, rfl, HI⟩ := hrel
        by_cases hrt : r < fr
        · have hri : (r : Int) < (fr : Int) := by omega
          have HSU : Hid ((slPl (r + 1)).foldl (junkAt jl) (fillR jl m0 m1 2) = junkAt jl ((slPl r).foldl (junkAt jl) (fillR jl m0 m1 2)) ⟨2, 0, (r : Int)⟩) := slPl_succ _ _ _
          generalize (slPl r).foldl (junkAt jl) (fillR jl m0 m1 2) = s at *
          have k2 := HI.out.below ((Below.refl wr.heap.size wr).drew)
          have HC := k2.junk HJ.out.1 HN.out HJ.out.2.1 HJ.out.2.2
          have HSF : Hid (wr.drew.cell? ⟨N + 3, 22, none⟩ = some (.slice (some ⟨N + 2, 0, none⟩) fr fr) ∧ True) := ⟨k2.sl22, trivial⟩
          have wr1 : IntKind.i64.wrap (r : Int) = (r : Int) := by rw [IntKind.wrap_i64]; omega
          clear HI k2
          go_upto_region 14 with fail
          --CUTE
          refine wp_region_X (fun w' => w'.cell? ⟨N + 3, 22, none⟩ = some (.slice (some ⟨N + 2, 0, none⟩) fr fr)) 99 (by kernel_rfl) HSF.out.1 (fun hHeld => ?_)
          refine wpXt (v := ?_) 0 rfl (by kernel_rfl) (fun _ _ _ h => h) (by rfl) ?_ hHeld ?_
          rotate_left
          · intro w' hSw
            go_simp <;> with_reducible rfl
          try simp only [Act.put, List.setIfInBounds_toArray, List.set_cons_zero, List.set_cons_succ]
          refine wpXt (v := ?_) 1 rfl (by kernel_rfl) (fun _ _ _ h => h) (by rfl) ?_ hHeld ?_
          rotate_left
          · intro w' hSw
            go_simp <;> with_reducible rfl
          try simp only [Act.put, List.setIfInBounds_toArray, List.set_cons_zero, List.set_cons_succ]
          refine wpXt (v := ?_) 2 rfl (by kernel_rfl) (fun _ _ _ h => h) (by rfl) ?_ hHeld ?_
          rotate_left
          · intro w' hSw
            go_simp <;> with_reducible rfl
          try simp only [Act.put, List.setIfInBounds_toArray, List.set_cons_zero, List.set_cons_succ]
          refine wpXs 3 rfl (by kernel_rfl) (fun K hK => ?_)
          go_simp
          refine HC.mono ?_
          clear HC
          rintro e w6 ⟨rfl, k6, z6⟩
          have HS6 : Hid (w6.cell? ⟨N + 3, 22, none⟩ = some (.slice (some ⟨N + 2, 0, none⟩) fr fr)) := k6.sl22
          refine hK.out _ _ HS6.out (fun hHeld => ?_)
          clear hK K
          try simp only [Act.put, List.setIfInBounds_toArray, List.set_cons_zero, List.set_cons_succ]
          have e1 : w6.cell? ⟨N + 2, r, none⟩ = some (.int .i64 (s.sl r)) := k6.sl.cell hrt
          have e2 := k6.sl.frozen r
          have e3 := k6.sl.lt
          have HN6 : Hid (FlS w N fr m0 m1 aj nj cj jl (junkAt jl s ⟨2, 0, (r : Int)⟩) (w6.setCell ⟨N + 2, r, none⟩ (.int .i64 (jl.getD s.nx 0)))) := by
            have := k6.setS r (jl.getD s.nx 0)
            unfold junkAt
            exact this
          clear k6 z6
          refine wpXs 4 rfl (by kernel_rfl) (fun K hK => ?_)
          go_simp
          refine hK.out _ _ HS6.out (fun hHeld => ?_)
          clear hK K
          try simp only [Act.put, List.setIfInBounds_toArray, List.set_cons_zero, List.set_cons_succ]
          refine wpXs 5 rfl (by kernel_rfl) (fun K hK => ?_)
          go_simp
          refine hK.out _ _ HN6.out.sl22 (fun hHeld => ?_)
          clear hK K
          try simp only [Act.put, List.setIfInBounds_toArray, List.set_cons_zero, List.set_cons_succ]
          refine wpAnyX_done (by kernel_rfl) ?_ _

          rw [← HSU.out] at HN6
          clear HSU e1 e2 e3 HS6 HSF
          go_wp2
          go_roundw
          case rel => exact ⟨r + 1, by omega, by go_num, HN6⟩
          case measure => simp [intOf]; omega
        · have HE : Hid (FlS w N fr m0 m1 aj nj cj jl (fillM jl m0 m1 fr) wr) := by
            have h := HI.out
            have e : r = fr := by omega
            rw [e] at h
            exact h
          clear HI
          obtain ⟨cs, h1, h2, h3⟩ := HE.out.bx
          obtain ⟨cz, g1, g2, g3⟩ := HE.out.rs
          have HCS : Hid (cs.size = 25 ∧ ∀ i, i < 25 → cs[i]? = some (stF (N + 2) fr aj nj cj (fillM jl m0 m1 fr) i)) := ⟨h2, h3⟩
          have hall : cs.all (·.oneCell') = true := by
            rw [Array.all_eq_true]
            intro i hi
            have e := h3 i (by omega)
            rw [Array.getElem?_eq_getElem hi] at e
            rw [Option.some.inj e]
            unfold stF
            split
            · rfl
            · split
              · rfl
              · split <;> rfl
          obtain ⟨V, hV⟩ : ∃ V, wr.setRow (N + 1) cs = V := ⟨_, rfl⟩
          have hV1 : V.heap[N + 1]? = some (.cells cs 85 (0, 0)) := by rw [← hV]; exact setRow_heap _ _ _ _ _ _ g1
          have HV : Hid (V.rowIs (N + 2) 3 fr (fun i => .int .i64 ((fillM jl m0 m1 fr).sl i)) ∧ Below N w V ∧ NxOk jl (fillM jl m0 m1 fr)) := by
            have hoth : ∀ q, q ≠ N + 1 → V.heap[q]? = wr.heap[q]? := fun q hq => by rw [← hV]; exact setRow_other _ _ _ _ hq
            refine ⟨HE.out.sl.of_block (hoth _ (by omega)), ?_, HE.out.ok⟩
            have hl := HE.out.low
            exact ⟨by rw [← hV]; exact hl.os, by rw [← hV]; exact hl.tape, by rw [← hV]; exact hl.output, by rw [← hV, setRow_size]; exact hl.size, fun q hq => (hoth q (by omega)).trans (hl.block q hq)⟩
          have HROWS : Hid (wr.heap[N + 3]? = some (.cells cs 85 (0, 0)) ∧ wr.heap[N + 1]? = some (.cells cz 85 (0, 0)) ∧ cz.size = cs.size ∧ cs.all (·.oneCell') = true ∧ wr.setRow (N + 1) cs = V ∧ V.heap[N + 1]? = some (.cells cs 85 (0, 0)) ∧ (Try.prog.info? 85).map (·.size) = some cs.size) := ⟨h1, g1, g2.trans h2.symm, hall, hV, hV1, by rw [h2]; kernel_rfl⟩
          clear h1 h2 h3 g1 g2 g3 HE hall hV hV1
          go_upto_region 16 with fail
          --CUTF
          apply wp_region_lit
          go_step
          --CUTG
          refine wp_load_row 85 _ rfl (N + 3) rfl 85 cs (0, 0) _ HROWS.out.1 Try.underlying85 rfl HROWS.out.2.2.2.2.2.2 ?_
          try simp only [Act.put, List.setIfInBounds_toArray, List.set_cons_zero, List.set_cons_succ]
          iterate 2 go_step
          --CUTH
          refine wp_rowM 85 _ _ rfl rfl (N + 1) cs rfl rfl 85 cz HROWS.out.2.1 HROWS.out.2.2.2.2.2.2 HROWS.out.2.2.1 HROWS.out.2.2.2.1 V HROWS.out.2.2.2.2.1 ?_
          --CUTI
          go_wp2_with fail
          --CUTJ
          refine bodyPost_ret (v := .agg cs) (results_cell_row Try.results27 _ _ (N + 1) 85 cs (0, 0) _ rfl HROWS.out.2.2.2.2.2.1 Try.underlying85 rfl HROWS.out.2.2.2.2.2.2) rfl ⟨cs, rfl, HCS.out.1, HCS.out.2, HV.out⟩
end Go.Proofs.Ytjbjnndmpheedaa
