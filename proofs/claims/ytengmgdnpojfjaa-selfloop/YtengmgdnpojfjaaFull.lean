/-
  The contract of 'checker.full': whether spoils and operands leave no register of some class free (P1.7), where classes are 0 or 1.
-/
import Derived.Test.YtengmgdnpojfjaaReuse
import Derived.Test.YtengmgdnpojfjaaSpoils
namespace Go.Proofs.Ytengmgdnpojfjaa
open Go.RowKit
set_option linter.unusedVariables false

def spIn (c : Int) (r : Rg) : Bool := decide (r.cls = c)
def opIn (values : List Int) (c : Int) (o : Opr) : Bool := decide ((o.limit = 2 ∨ o.limit = 4 ∨ o.limit = 5) ∧ classAt values o.value = c)
def fullN (values : List Int) (x : Ins) (c : Int) : Nat := x.spoils.countP (spIn c) + x.operands.countP (opIn values c)
def fullB (values : List Int) (m0 m1 : Int) (x : Ins) : Bool := decide (m0 ≤ (fullN values x 0 : Int) ∨ m1 ≤ (fullN values x 1 : Int))

theorem count_snoc {α : Type} (l : List α) (p : α → Bool) (k : Nat) (h : k < l.length) : (l.take (k + 1)).countP p = (l.take k).countP p + if p l[k] then 1 else 0 := by
  rw [List.take_succ_eq_append_getElem h, List.countP_append]
  simp [List.countP_cons]
theorem count_le {α : Type} (l : List α) (p : α → Bool) (k : Nat) : (l.take k).countP p ≤ k := Nat.le_trans List.countP_le_length (List.length_take_le _ _)

theorem top2 (W : World) (a b : Value) (t n : Nat) (h : W.heap.size = n) : (W.alloc (.cells #[a, b] t)).cell? ⟨n, 0, none⟩ = some a ∧ (W.alloc (.cells #[a, b] t)).cell? ⟨n, 1, none⟩ = some b ∧ (W.alloc (.cells #[a, b] t)).frozen? ⟨n, 0, none⟩ = false ∧ (W.alloc (.cells #[a, b] t)).frozen? ⟨n, 1, none⟩ = false := by
  subst h
  exact ⟨by simp, by simp, by go_simp, by go_simp⟩

theorem set_two {wr : World} {T j : Nat} {u v0 v1 : Value} {cs : Array Value} {t : Nat} (hj : j = 0 ∨ j = 1) (t0 : wr.cell? ⟨T, 0, none⟩ = some v0) (t1 : wr.cell? ⟨T, 1, none⟩ = some v1) (z0 : wr.frozen? ⟨T, 0, none⟩ = false) (z1 : wr.frozen? ⟨T, 1, none⟩ = false) (hz : T < wr.heap.size) :
    ((wr.setCell ⟨T, j, none⟩ u).alloc (.cells cs t)).cell? ⟨T, 0, none⟩ = some (if j = 0 then u else v0) ∧ ((wr.setCell ⟨T, j, none⟩ u).alloc (.cells cs t)).cell? ⟨T, 1, none⟩ = some (if j = 1 then u else v1) ∧
      ((wr.setCell ⟨T, j, none⟩ u).alloc (.cells cs t)).frozen? ⟨T, 0, none⟩ = false ∧ ((wr.setCell ⟨T, j, none⟩ u).alloc (.cells cs t)).frozen? ⟨T, 1, none⟩ = false := by
  have hz' : T < (wr.setCell ⟨T, j, none⟩ u).heap.size := by simpa using hz
  rw [old_cell T _ _ _ hz', old_cell T _ _ _ hz', frozen?_alloc_cells, frozen?_alloc_cells, World.frozen?_setCell, World.frozen?_setCell]
  refine ⟨?_, ?_, z0, z1⟩
  · rcases hj with rfl | rfl
    · go_simp
    · go_simp
  · rcases hj with rfl | rfl
    · go_simp
    · go_simp

set_option maxHeartbeats 2000000 in
theorem full_any (values : List Int) (av : Option Addr) (cv : Nat) (vb : Value) (m0 m1 : Int) (x : Ins) (ao asp : Option Addr) (co csp : Nat) (w : World) (hv : SlOf w 1 RInt (.slice av values.length cv) values)
    (ho : SlOf w 5 ROpr (.slice ao x.operands.length co) x.operands) (hs : SlOf w 2 RRg (.slice asp x.spoils.length csp) x.spoils)
    (hO : ∀ o ∈ x.operands, isValueB values.length o.value = true) (hcl : ∀ v, isValueB values.length v = true → classAt values v = 0 ∨ classAt values v = 1) (hS : ∀ r ∈ x.spoils, r.cls = 0 ∨ r.cls = 1) :
    Calls Try.prog 78 #[.agg #[.slice av values.length cv, vb, .int .i64 m0, .int .i64 m1], .agg #[.int .i64 x.op, .slice ao x.operands.length co, .slice asp x.spoils.length csp]] w fun e w' => e = .returned (.bool (fullB values m0 m1 x)) ∧ Below w.heap.size w w' := by
  obtain ⟨_, _, _, lv⟩ := hv.out
  obtain ⟨_, _, _, lo⟩ := ho.out
  obtain ⟨_, _, _, ls⟩ := hs.out
  unfold longest at lv lo ls
  obtain ⟨W2, hW2⟩ : ∃ W2, W2 = (w.alloc (.cells #[.slice av values.length cv, vb, .int .i64 m0, .int .i64 m1] 84)).alloc (.cells #[.int .i64 x.op, .slice ao x.operands.length co, .slice asp x.spoils.length csp] 40) := ⟨_, rfl⟩
  have hbw2 : Below w.heap.size w W2 := by rw [hW2]; exact ((Below.refl _ _).alloc (Nat.le_refl _) _).alloc (by simp) _
  have HC : ChkAt W2 w.heap.size (.slice av values.length cv) vb m0 m1 := by rw [hW2]; exact ⟨by simp; omega, by simp, by simp, by simp, by simp⟩
  have HI : InsAt W2 (w.heap.size + 1) x.op (.slice ao x.operands.length co) (.slice asp x.spoils.length csp) := by rw [hW2]; exact ⟨by simp, by simp, by simp, by simp⟩
  have HW : Hid (W2 = (w.alloc (.cells #[.slice av values.length cv, vb, .int .i64 m0, .int .i64 m1] 84)).alloc (.cells #[.int .i64 x.op, .slice ao x.operands.length co, .slice asp x.spoils.length csp] 40)) := hW2
  have HZ : Hid (W2.heap.size = w.heap.size + 1 + 1) := by show _ = _; rw [hW2]; simp
  clear hW2
  go_enter Try.func78, Try.ntmps78
  go_wp2
  go_loopw [15] (fun i wr => ∃ k : Nat, k ≤ x.spoils.length ∧ i = .int .i64 k ∧ Below (w.heap.size + 1 + 1) W2 wr ∧ w.heap.size + 1 + 1 < wr.heap.size ∧ wr.cell? ⟨w.heap.size + 1 + 1, 0, none⟩ = some (.int .i64 ((x.spoils.take k).countP (spIn 0) : Nat)) ∧ wr.cell? ⟨w.heap.size + 1 + 1, 1, none⟩ = some (.int .i64 ((x.spoils.take k).countP (spIn 1) : Nat)) ∧ wr.frozen? ⟨w.heap.size + 1 + 1, 0, none⟩ = false ∧ wr.frozen? ⟨w.heap.size + 1 + 1, 1, none⟩ = false) (fun i _ => x.spoils.length - (intOf i).toNat)
  case atStart =>
    obtain ⟨x0, x1, x2, x3⟩ := top2 W2 (.int .i64 0) (.int .i64 0) 26 _ HZ.out
    rw [HW.out] at x0 x1 x2 x3
    exact ⟨0, Nat.zero_le _, rfl, by rw [HW.out]; exact (Below.refl _ _).alloc (by simp) _, by simp, x0, x1, x2, x3⟩
  case round =>
    obtain ⟨k, hk, rfl, hbr, hz, t0, t1, z0, z1⟩ := hrel
    have hbwr : Below w.heap.size w wr := hbw2.trans (hbr.mono (by omega))
    by_cases hlt : k < x.spoils.length
    · have n0 := count_snoc x.spoils (spIn 0) k hlt
      have n1 := count_snoc x.spoils (spIn 1) k hlt
      have l0 := count_le x.spoils (spIn 0) k
      have l1 := count_le x.spoils (spIn 1) k
      have hr := hS _ (List.getElem_mem hlt)
      obtain ⟨b2, off2, rfl, hb2, c0, c1⟩ := rg_cells (hs.below hbwr fun _ _ h => h) k hlt
      have L2 := old_cell b2
      have LT := old_cell (w.heap.size + 1 + 1)
      generalize x.spoils[k] = r at *
      generalize (x.spoils.take k).countP (spIn 0) = p0 at *
      generalize (x.spoils.take k).countP (spIn 1) = p1 at *
      rcases hr with hr | hr
      · have N0 : Hid ((x.spoils.take (k + 1)).countP (spIn 0) = p0 + 1) := by show _ = _; rw [n0]; simp [spIn, hr]
        have N1 : Hid ((x.spoils.take (k + 1)).countP (spIn 1) = p1) := by show _ = _; rw [n1]; simp [spIn, hr]
        clear n0 n1
        go_wp2
        go_roundw
        case rel =>
          obtain ⟨y0, y1, y2, y3⟩ := set_two (j := 0) (u := .int .i64 ((p0 : Int) + 1)) (cs := #[.int .i64 0, .int .i64 r.n]) (t := 100) (by simp) t0 t1 z0 z1 (by omega)
          exact ⟨k + 1, by omega, by go_num, ((hbr.setCell (by simp) _).alloc (by simp; omega) _), by simp; omega, by rw [N0.out]; exact y0, by rw [N1.out]; exact y1, y2, y3⟩
        case measure => simp [intOf]; omega
      · have N0 : Hid ((x.spoils.take (k + 1)).countP (spIn 0) = p0) := by show _ = _; rw [n0]; simp [spIn, hr]
        have N1 : Hid ((x.spoils.take (k + 1)).countP (spIn 1) = p1 + 1) := by show _ = _; rw [n1]; simp [spIn, hr]
        clear n0 n1
        go_wp2
        go_roundw
        case rel =>
          obtain ⟨y0, y1, y2, y3⟩ := set_two (j := 1) (u := .int .i64 ((p1 : Int) + 1)) (cs := #[.int .i64 1, .int .i64 r.n]) (t := 100) (by simp) t0 t1 z0 z1 (by omega)
          exact ⟨k + 1, by omega, by go_num, ((hbr.setCell (by simp) _).alloc (by simp; omega) _), by simp; omega, by rw [N0.out]; exact y0, by rw [N1.out]; exact y1, y2, y3⟩
        case measure => simp [intOf]; omega
    · have ek : x.spoils.take k = x.spoils := List.take_of_length_le (by omega)
      rw [ek] at t0 t1
      clear ek
      have hP0 : (x.spoils.countP (spIn 0)) ≤ x.spoils.length := List.countP_le_length
      have hP1 : (x.spoils.countP (spIn 1)) ≤ x.spoils.length := List.countP_le_length
      have HF : Hid (fullB values m0 m1 x = decide (m0 ≤ ((x.spoils.countP (spIn 0) + x.operands.countP (opIn values 0) : Nat) : Int) ∨ m1 ≤ ((x.spoils.countP (spIn 1) + x.operands.countP (opIn values 1) : Nat) : Int))) := rfl
      generalize x.spoils.countP (spIn 0) = P0 at *
      generalize x.spoils.countP (spIn 1) = P1 at *
      obtain ⟨_, i0, i1, i2⟩ := HI.below hbr (by omega)
      go_wp2
      clear i0 i1 i2
      go_loopw [29] (fun i wr => ∃ k : Nat, k ≤ x.operands.length ∧ i = .int .i64 k ∧ Below (w.heap.size + 1 + 1) W2 wr ∧ w.heap.size + 1 + 1 < wr.heap.size ∧ wr.cell? ⟨w.heap.size + 1 + 1, 0, none⟩ = some (.int .i64 (P0 + (x.operands.take k).countP (opIn values 0) : Nat)) ∧ wr.cell? ⟨w.heap.size + 1 + 1, 1, none⟩ = some (.int .i64 (P1 + (x.operands.take k).countP (opIn values 1) : Nat)) ∧ wr.frozen? ⟨w.heap.size + 1 + 1, 0, none⟩ = false ∧ wr.frozen? ⟨w.heap.size + 1 + 1, 1, none⟩ = false) (fun i _ => x.operands.length - (intOf i).toNat)
      case atStart => exact ⟨0, Nat.zero_le _, rfl, hbr, hz, by simpa using t0, by simpa using t1, z0, z1⟩
      case round =>
        clear t0 t1 z0 z1 hz hbwr hbr
        obtain ⟨k, hk2, rfl, hbr, hz, t0, t1, z0, z1⟩ := hrel
        have hbwr : Below w.heap.size w wr := hbw2.trans (hbr.mono (by omega))
        obtain ⟨_, g0, g1, g2, g3⟩ := HC.below hbr (by omega)
        by_cases hlt : k < x.operands.length
        · have n0 := count_snoc x.operands (opIn values 0) k hlt
          have n1 := count_snoc x.operands (opIn values 1) k hlt
          have l0 := count_le x.operands (opIn values 0) k
          have l1 := count_le x.operands (opIn values 1) k
          have hov := hO _ (List.getElem_mem hlt)
          have hclo := hcl _ hov
          obtain ⟨b5, off5, rfl, hb5, c0, c1, c2, c3, c4⟩ := opr_cells (ho.below hbwr fun _ _ h => h) k hlt
          obtain ⟨bb, off, rfl, hcell, hbb, v0, v1⟩ := classAt_cell (hv.below hbwr fun _ _ h => h) _ hov
          have L2 := old_cell b5
          have L3 := old_cell bb
          have L4 := old_cell w.heap.size
          have LT := old_cell (w.heap.size + 1 + 1)
          have hww : w.heap.size < wr.heap.size := by omega
          generalize x.operands[k] = o at *
          generalize (x.operands.take k).countP (opIn values 0) = p0 at *
          generalize (x.operands.take k).countP (opIn values 1) = p1 at *
          by_cases hl2 : o.limit = 2 ∨ o.limit = 4 ∨ o.limit = 5
          · have hql : (o.limit == 2) = true ∨ ((o.limit == 2) = false ∧ (o.limit == 4) = true) ∨ ((o.limit == 2) = false ∧ (o.limit == 4) = false ∧ (o.limit == 5) = true) := by rcases hl2 with h | h | h <;> simp [h]
            rcases hclo with hc | hc
            · have N0 : Hid (P0 + (x.operands.take (k + 1)).countP (opIn values 0) = P0 + p0 + 1) := by show _ = _; rw [n0]; simp [opIn, hl2, hc]; omega
              have N1 : Hid (P1 + (x.operands.take (k + 1)).countP (opIn values 1) = P1 + p1) := by show _ = _; rw [n1]; simp [opIn, hc]
              clear n0 n1 hl2
              rw [hc] at hcell
              rcases hql with q2 | ⟨q2, q4⟩ | ⟨q2, q4, q5⟩
              all_goals
                go_wp2
                go_roundw
                case rel =>
                  obtain ⟨y0, y1, y2, y3⟩ := set_two (j := 0) (u := .int .i64 (((P0 + p0 : Nat) : Int) + 1)) (cs := #[.int .i64 o.kind, .int .i64 o.value, .bool o.late, .int .i64 o.limit, .int .i64 o.n]) (t := 43) (by simp) t0 t1 z0 z1 (by omega)
                  exact ⟨k + 1, by omega, by go_num, ((hbr.setCell (by simp) _).alloc (by simp; omega) _), by simp; omega, by rw [N0.out]; exact y0, by rw [N1.out]; exact y1, y2, y3⟩
                case measure => simp [intOf]; omega
            · have N0 : Hid (P0 + (x.operands.take (k + 1)).countP (opIn values 0) = P0 + p0) := by show _ = _; rw [n0]; simp [opIn, hc]
              have N1 : Hid (P1 + (x.operands.take (k + 1)).countP (opIn values 1) = P1 + p1 + 1) := by show _ = _; rw [n1]; simp [opIn, hl2, hc]; omega
              clear n0 n1 hl2
              rw [hc] at hcell
              rcases hql with q2 | ⟨q2, q4⟩ | ⟨q2, q4, q5⟩
              all_goals
                go_wp2
                go_roundw
                case rel =>
                  obtain ⟨y0, y1, y2, y3⟩ := set_two (j := 1) (u := .int .i64 (((P1 + p1 : Nat) : Int) + 1)) (cs := #[.int .i64 o.kind, .int .i64 o.value, .bool o.late, .int .i64 o.limit, .int .i64 o.n]) (t := 43) (by simp) t0 t1 z0 z1 (by omega)
                  exact ⟨k + 1, by omega, by go_num, ((hbr.setCell (by simp) _).alloc (by simp; omega) _), by simp; omega, by rw [N0.out]; exact y0, by rw [N1.out]; exact y1, y2, y3⟩
                case measure => simp [intOf]; omega
          · have q2 : (o.limit == 2) = false := by simp; omega
            have q4 : (o.limit == 4) = false := by simp; omega
            have q5 : (o.limit == 5) = false := by simp; omega
            have N0 : Hid (P0 + (x.operands.take (k + 1)).countP (opIn values 0) = P0 + p0) := by show _ = _; rw [n0]; simp [opIn]; omega
            have N1 : Hid (P1 + (x.operands.take (k + 1)).countP (opIn values 1) = P1 + p1) := by show _ = _; rw [n1]; simp [opIn]; omega
            clear n0 n1 hl2
            go_wp2
            go_roundw
            case rel => exact ⟨k + 1, by omega, by go_num, hbr.alloc (by omega) _, by simp; omega, by rw [N0.out, LT _ _ _ (by omega)]; exact t0, by rw [N1.out, LT _ _ _ (by omega)]; exact t1, by rw [frozen?_alloc_cells]; exact z0, by rw [frozen?_alloc_cells]; exact z1⟩
            case measure => simp [intOf]; omega
        · have ek : x.operands.take k = x.operands := List.take_of_length_le (by omega)
          rw [ek] at t0 t1
          clear ek
          generalize P0 + x.operands.countP (opIn values 0) = N0 at *
          generalize P1 + x.operands.countP (opIn values 1) = N1 at *
          have j0 : ∀ w : World, (Instr.index 26 (.agg #[.int .i64 N0, .int .i64 N1]) (.int .i64 0)).run Try.prog w = .ok (.int .i64 N0) w := fun _ => by kernel_rfl
          have j1 : ∀ w : World, (Instr.index 26 (.agg #[.int .i64 N0, .int .i64 N1]) (.int .i64 1)).run Try.prog w = .ok (.int .i64 N1) w := fun _ => by kernel_rfl
          by_cases f0 : m0 ≤ (N0 : Int)
          · have H : Hid (true = fullB values m0 m1 x) := by show _ = _; rw [HF.out]; simp [f0]
            clear HF
            go_wp2
            refine wp_loop_rounds 3 ?_
            rw [rounds_succ]
            go_wp2
            go_ret
            exact ⟨ret_bool H.out, hbwr⟩
          · by_cases f1 : m1 ≤ (N1 : Int)
            · have H : Hid (true = fullB values m0 m1 x) := by show _ = _; rw [HF.out]; simp [f1]
              clear HF
              go_wp2
              refine wp_loop_rounds 3 ?_
              rw [rounds_succ]
              go_wp2
              rw [rounds_succ]
              go_wp2
              go_ret
              exact ⟨ret_bool H.out, hbwr⟩
            · have H : Hid (false = fullB values m0 m1 x) := by show _ = _; rw [HF.out]; simp [f0, f1]
              clear HF
              go_wp2
              refine wp_loop_rounds 3 ?_
              rw [rounds_succ]
              go_wp2
              rw [rounds_succ]
              go_wp2
              rw [rounds_succ]
              go_wp2
              go_ret
              exact ⟨ret_bool H.out, hbwr⟩
end Go.Proofs.Ytengmgdnpojfjaa
