/-
  The contract of 'checker.full': whether spoils and operands leave no register of some class free (P1.7), where classes are 0 or 1.
  The contract of 'checker.clash': whether two operands, or an operand and a spoil, ask for one register (P1.6).
  The contract of 'checker.instr': which error an instruction by itself has (P1.4 to P1.7), where the values' classes are 0 or 1.
-/
import Derived.Test.YtglfpnnfcpnmoaaA1
import Derived.Test.YtglfpnnfcpnmoaaA1p
namespace Go.Proofs.Ytglfpnnfcpnmoaa
open Go.RowKit
set_option linter.unusedVariables false

def spIn (c : Int) (r : Rg) : Bool := decide (r.cls = c)
def opIn (values : List Int) (c : Int) (o : Opr) : Bool := decide ((o.limit = 2 ∨ o.limit = 4 ∨ o.limit = 5) ∧ classAt values o.value = c)
def fullN (values : List Int) (x : Ins) (c : Int) : Nat := x.spoils.countP (spIn c) + x.operands.countP (opIn values c)
def fullB (values : List Int) (m0 m1 : Int) (x : Ins) : Bool := decide (m0 ≤ (fullN values x 0 : Int) ∨ m1 ≤ (fullN values x 1 : Int))

theorem count_snoc {α : Type} (l : List α) (p : α → Bool) (k : Nat) (h : k < l.length) : (l.take (k + 1)).countP p = (l.take k).countP p + if p l[k] then 1 else 0 := by
  rw [List.take_succ_eq_append_getElem h, List.countP_append]
  simp [List.countP_cons]
theorem count_le {α : Type} (l : List α) (p : α → Bool) (k : Nat) : (l.take k).countP p ≤ k := Nat.le_trans List.countP_le_length (List.length_take_le _ _)

theorem top2 (W : World) (a b : Value) (t n : Nat) (h : W.heap.size = n) : (W.alloc (.cells #[a, b] t)).cell? ⟨n, 0, none⟩ = some a ∧ (W.alloc (.cells #[a, b] t)).cell? ⟨n, 1, none⟩ = some b ∧ (W.alloc (.cells #[a, b] t)).frozen? ⟨n, 0, none⟩ = false ∧ (W.alloc (.cells #[a, b] t)).frozen? ⟨n, 1, none⟩ = false := by
  subst h
  exact ⟨by simp, by simp, by go_simp, by go_simp⟩

theorem set_two {wr : World} {T j : Nat} {u v0 v1 : Value} {cs : Array Value} {t : Nat} (hj : j = 0 ∨ j = 1) (t0 : wr.cell? ⟨T, 0, none⟩ = some v0) (t1 : wr.cell? ⟨T, 1, none⟩ = some v1) (z0 : wr.frozen? ⟨T, 0, none⟩ = false) (z1 : wr.frozen? ⟨T, 1, none⟩ = false) (hz : T < wr.heap.size) :
    ((wr.setCell ⟨T, j, none⟩ u).alloc (.cells cs t)).cell? ⟨T, 0, none⟩ = some (if j = 0 then u else v0) ∧ ((wr.setCell ⟨T, j, none⟩ u).alloc (.cells cs t)).cell? ⟨T, 1, none⟩ = some (if j = 1 then u else v1) ∧
      ((wr.setCell ⟨T, j, none⟩ u).alloc (.cells cs t)).frozen? ⟨T, 0, none⟩ = false ∧ ((wr.setCell ⟨T, j, none⟩ u).alloc (.cells cs t)).frozen? ⟨T, 1, none⟩ = false := by
  have hz' : T < (wr.setCell ⟨T, j, none⟩ u).heap.size := by simpa using hz
  rw [old_cell T _ _ _ hz', old_cell T _ _ _ hz', frozen?_alloc_cells, frozen?_alloc_cells, World.frozen?_setCell, World.frozen?_setCell]
  refine ⟨?_, ?_, z0, z1⟩
  · rcases hj with rfl | rfl
    · go_simp
    · go_simp
  · rcases hj with rfl | rfl
    · go_simp
    · go_simp

set_option maxHeartbeats 2000000 in
theorem full_any (values : List Int) (av : Option Addr) (cv : Nat) (vb : Value) (m0 m1 : Int) (x : Ins) (ao asp : Option Addr) (co csp : Nat) (w : World) (hv : SlOf w 1 RInt (.slice av values.length cv) values)
    (ho : SlOf w 5 ROpr (.slice ao x.operands.length co) x.operands) (hs : SlOf w 2 RRg (.slice asp x.spoils.length csp) x.spoils)
    (hO : ∀ o ∈ x.operands, isValueB values.length o.value = true) (hcl : ∀ v, isValueB values.length v = true → classAt values v = 0 ∨ classAt values v = 1) (hS : ∀ r ∈ x.spoils, r.cls = 0 ∨ r.cls = 1) :
    Calls Try.prog 65 #[.agg #[.slice av values.length cv, vb, .int .i64 m0, .int .i64 m1], .agg #[.int .i64 x.op, .slice ao x.operands.length co, .slice asp x.spoils.length csp]] w fun e w' => e = .returned (.bool (fullB values m0 m1 x)) ∧ Below w.heap.size w w' := by
  obtain ⟨_, _, _, lv⟩ := hv.out
  obtain ⟨_, _, _, lo⟩ := ho.out
  obtain ⟨_, _, _, ls⟩ := hs.out
  unfold longest at lv lo ls
  obtain ⟨W2, hW2⟩ : ∃ W2, W2 = (w.alloc (.cells #[.slice av values.length cv, vb, .int .i64 m0, .int .i64 m1] 106)).alloc (.cells #[.int .i64 x.op, .slice ao x.operands.length co, .slice asp x.spoils.length csp] 44) := ⟨_, rfl⟩
  have hbw2 : Below w.heap.size w W2 := by rw [hW2]; exact ((Below.refl _ _).alloc (Nat.le_refl _) _).alloc (by simp) _
  have HC : ChkAt W2 w.heap.size (.slice av values.length cv) vb m0 m1 := by rw [hW2]; exact ⟨by simp; omega, by simp, by simp, by simp, by simp⟩
  have HI : InsAt W2 (w.heap.size + 1) x.op (.slice ao x.operands.length co) (.slice asp x.spoils.length csp) := by rw [hW2]; exact ⟨by simp, by simp, by simp, by simp⟩
  have HW : Hid (W2 = (w.alloc (.cells #[.slice av values.length cv, vb, .int .i64 m0, .int .i64 m1] 106)).alloc (.cells #[.int .i64 x.op, .slice ao x.operands.length co, .slice asp x.spoils.length csp] 44)) := hW2
  have HZ : Hid (W2.heap.size = w.heap.size + 1 + 1) := by show _ = _; rw [hW2]; simp
  clear hW2
  go_enter Try.func65, Try.ntmps65
  go_wp2
  go_loopw [15] (fun i wr => ∃ k : Nat, k ≤ x.spoils.length ∧ i = .int .i64 k ∧ Below (w.heap.size + 1 + 1) W2 wr ∧ w.heap.size + 1 + 1 < wr.heap.size ∧ wr.cell? ⟨w.heap.size + 1 + 1, 0, none⟩ = some (.int .i64 ((x.spoils.take k).countP (spIn 0) : Nat)) ∧ wr.cell? ⟨w.heap.size + 1 + 1, 1, none⟩ = some (.int .i64 ((x.spoils.take k).countP (spIn 1) : Nat)) ∧ wr.frozen? ⟨w.heap.size + 1 + 1, 0, none⟩ = false ∧ wr.frozen? ⟨w.heap.size + 1 + 1, 1, none⟩ = false) (fun i _ => x.spoils.length - (intOf i).toNat)
  case atStart =>
    obtain ⟨x0, x1, x2, x3⟩ := top2 W2 (.int .i64 0) (.int .i64 0) 23 _ HZ.out
    rw [HW.out] at x0 x1 x2 x3
    exact ⟨0, Nat.zero_le _, rfl, by rw [HW.out]; exact (Below.refl _ _).alloc (by simp) _, by simp, x0, x1, x2, x3⟩
  case round =>
    obtain ⟨k, hk, rfl, hbr, hz, t0, t1, z0, z1⟩ := hrel
    have hbwr : Below w.heap.size w wr := hbw2.trans (hbr.mono (by omega))
    by_cases hlt : k < x.spoils.length
    · have n0 := count_snoc x.spoils (spIn 0) k hlt
      have n1 := count_snoc x.spoils (spIn 1) k hlt
      have l0 := count_le x.spoils (spIn 0) k
      have l1 := count_le x.spoils (spIn 1) k
      have hr := hS _ (List.getElem_mem hlt)
      obtain ⟨b2, off2, rfl, hb2, c0, c1⟩ := rg_cells (hs.below hbwr fun _ _ h => h) k hlt
      have L2 := old_cell b2
      have LT := old_cell (w.heap.size + 1 + 1)
      generalize x.spoils[k] = r at *
      generalize (x.spoils.take k).countP (spIn 0) = p0 at *
      generalize (x.spoils.take k).countP (spIn 1) = p1 at *
      rcases hr with hr | hr
      · have N0 : Hid ((x.spoils.take (k + 1)).countP (spIn 0) = p0 + 1) := by show _ = _; rw [n0]; simp [spIn, hr]
        have N1 : Hid ((x.spoils.take (k + 1)).countP (spIn 1) = p1) := by show _ = _; rw [n1]; simp [spIn, hr]
        clear n0 n1
        go_wp2
        go_roundw
        case rel =>
          obtain ⟨y0, y1, y2, y3⟩ := set_two (j := 0) (u := .int .i64 ((p0 : Int) + 1)) (cs := #[.int .i64 0, .int .i64 r.n]) (t := 97) (by simp) t0 t1 z0 z1 (by omega)
          exact ⟨k + 1, by omega, by go_num, ((hbr.setCell (by simp) _).alloc (by simp; omega) _), by simp; omega, by rw [N0.out]; exact y0, by rw [N1.out]; exact y1, y2, y3⟩
        case measure => simp [intOf]; omega
      · have N0 : Hid ((x.spoils.take (k + 1)).countP (spIn 0) = p0) := by show _ = _; rw [n0]; simp [spIn, hr]
        have N1 : Hid ((x.spoils.take (k + 1)).countP (spIn 1) = p1 + 1) := by show _ = _; rw [n1]; simp [spIn, hr]
        clear n0 n1
        go_wp2
        go_roundw
        case rel =>
          obtain ⟨y0, y1, y2, y3⟩ := set_two (j := 1) (u := .int .i64 ((p1 : Int) + 1)) (cs := #[.int .i64 1, .int .i64 r.n]) (t := 97) (by simp) t0 t1 z0 z1 (by omega)
          exact ⟨k + 1, by omega, by go_num, ((hbr.setCell (by simp) _).alloc (by simp; omega) _), by simp; omega, by rw [N0.out]; exact y0, by rw [N1.out]; exact y1, y2, y3⟩
        case measure => simp [intOf]; omega
    · have ek : x.spoils.take k = x.spoils := List.take_of_length_le (by omega)
      rw [ek] at t0 t1
      clear ek
      have hP0 : (x.spoils.countP (spIn 0)) ≤ x.spoils.length := List.countP_le_length
      have hP1 : (x.spoils.countP (spIn 1)) ≤ x.spoils.length := List.countP_le_length
      have HF : Hid (fullB values m0 m1 x = decide (m0 ≤ ((x.spoils.countP (spIn 0) + x.operands.countP (opIn values 0) : Nat) : Int) ∨ m1 ≤ ((x.spoils.countP (spIn 1) + x.operands.countP (opIn values 1) : Nat) : Int))) := rfl
      generalize x.spoils.countP (spIn 0) = P0 at *
      generalize x.spoils.countP (spIn 1) = P1 at *
      obtain ⟨_, i0, i1, i2⟩ := HI.below hbr (by omega)
      go_wp2
      clear i0 i1 i2
      go_loopw [29] (fun i wr => ∃ k : Nat, k ≤ x.operands.length ∧ i = .int .i64 k ∧ Below (w.heap.size + 1 + 1) W2 wr ∧ w.heap.size + 1 + 1 < wr.heap.size ∧ wr.cell? ⟨w.heap.size + 1 + 1, 0, none⟩ = some (.int .i64 (P0 + (x.operands.take k).countP (opIn values 0) : Nat)) ∧ wr.cell? ⟨w.heap.size + 1 + 1, 1, none⟩ = some (.int .i64 (P1 + (x.operands.take k).countP (opIn values 1) : Nat)) ∧ wr.frozen? ⟨w.heap.size + 1 + 1, 0, none⟩ = false ∧ wr.frozen? ⟨w.heap.size + 1 + 1, 1, none⟩ = false) (fun i _ => x.operands.length - (intOf i).toNat)
      case atStart => exact ⟨0, Nat.zero_le _, rfl, hbr, hz, by simpa using t0, by simpa using t1, z0, z1⟩
      case round =>
        clear t0 t1 z0 z1 hz hbwr hbr
        obtain ⟨k, hk2, rfl, hbr, hz, t0, t1, z0, z1⟩ := hrel
        have hbwr : Below w.heap.size w wr := hbw2.trans (hbr.mono (by omega))
        obtain ⟨_, g0, g1, g2, g3⟩ := HC.below hbr (by omega)
        by_cases hlt : k < x.operands.length
        · have n0 := count_snoc x.operands (opIn values 0) k hlt
          have n1 := count_snoc x.operands (opIn values 1) k hlt
          have l0 := count_le x.operands (opIn values 0) k
          have l1 := count_le x.operands (opIn values 1) k
          have hov := hO _ (List.getElem_mem hlt)
          have hclo := hcl _ hov
          obtain ⟨b5, off5, rfl, hb5, c0, c1, c2, c3, c4⟩ := opr_cells (ho.below hbwr fun _ _ h => h) k hlt
          obtain ⟨bb, off, rfl, hcell, hbb, v0, v1⟩ := classAt_cell (hv.below hbwr fun _ _ h => h) _ hov
          have L2 := old_cell b5
          have L3 := old_cell bb
          have L4 := old_cell w.heap.size
          have LT := old_cell (w.heap.size + 1 + 1)
          have hww : w.heap.size < wr.heap.size := by omega
          generalize x.operands[k] = o at *
          generalize (x.operands.take k).countP (opIn values 0) = p0 at *
          generalize (x.operands.take k).countP (opIn values 1) = p1 at *
          by_cases hl2 : o.limit = 2 ∨ o.limit = 4 ∨ o.limit = 5
          · have hql : (o.limit == 2) = true ∨ ((o.limit == 2) = false ∧ (o.limit == 4) = true) ∨ ((o.limit == 2) = false ∧ (o.limit == 4) = false ∧ (o.limit == 5) = true) := by rcases hl2 with h | h | h <;> simp [h]
            rcases hclo with hc | hc
            · have N0 : Hid (P0 + (x.operands.take (k + 1)).countP (opIn values 0) = P0 + p0 + 1) := by show _ = _; rw [n0]; simp [opIn, hl2, hc]; omega
              have N1 : Hid (P1 + (x.operands.take (k + 1)).countP (opIn values 1) = P1 + p1) := by show _ = _; rw [n1]; simp [opIn, hc]
              clear n0 n1 hl2
              rw [hc] at hcell
              rcases hql with q2 | ⟨q2, q4⟩ | ⟨q2, q4, q5⟩
              all_goals
                go_wp2
                go_roundw
                case rel =>
                  obtain ⟨y0, y1, y2, y3⟩ := set_two (j := 0) (u := .int .i64 (((P0 + p0 : Nat) : Int) + 1)) (cs := #[.int .i64 o.kind, .int .i64 o.value, .bool o.late, .int .i64 o.limit, .int .i64 o.n]) (t := 46) (by simp) t0 t1 z0 z1 (by omega)
                  exact ⟨k + 1, by omega, by go_num, ((hbr.setCell (by simp) _).alloc (by simp; omega) _), by simp; omega, by rw [N0.out]; exact y0, by rw [N1.out]; exact y1, y2, y3⟩
                case measure => simp [intOf]; omega
            · have N0 : Hid (P0 + (x.operands.take (k + 1)).countP (opIn values 0) = P0 + p0) := by show _ = _; rw [n0]; simp [opIn, hc]
              have N1 : Hid (P1 + (x.operands.take (k + 1)).countP (opIn values 1) = P1 + p1 + 1) := by show _ = _; rw [n1]; simp [opIn, hl2, hc]; omega
              clear n0 n1 hl2
              rw [hc] at hcell
              rcases hql with q2 | ⟨q2, q4⟩ | ⟨q2, q4, q5⟩
              all_goals
                go_wp2
                go_roundw
                case rel =>
                  obtain ⟨y0, y1, y2, y3⟩ := set_two (j := 1) (u := .int .i64 (((P1 + p1 : Nat) : Int) + 1)) (cs := #[.int .i64 o.kind, .int .i64 o.value, .bool o.late, .int .i64 o.limit, .int .i64 o.n]) (t := 46) (by simp) t0 t1 z0 z1 (by omega)
                  exact ⟨k + 1, by omega, by go_num, ((hbr.setCell (by simp) _).alloc (by simp; omega) _), by simp; omega, by rw [N0.out]; exact y0, by rw [N1.out]; exact y1, y2, y3⟩
                case measure => simp [intOf]; omega
          · have q2 : (o.limit == 2) = false := by simp; omega
            have q4 : (o.limit == 4) = false := by simp; omega
            have q5 : (o.limit == 5) = false := by simp; omega
            have N0 : Hid (P0 + (x.operands.take (k + 1)).countP (opIn values 0) = P0 + p0) := by show _ = _; rw [n0]; simp [opIn]; omega
            have N1 : Hid (P1 + (x.operands.take (k + 1)).countP (opIn values 1) = P1 + p1) := by show _ = _; rw [n1]; simp [opIn]; omega
            clear n0 n1 hl2
            go_wp2
            go_roundw
            case rel => exact ⟨k + 1, by omega, by go_num, hbr.alloc (by omega) _, by simp; omega, by rw [N0.out, LT _ _ _ (by omega)]; exact t0, by rw [N1.out, LT _ _ _ (by omega)]; exact t1, by rw [frozen?_alloc_cells]; exact z0, by rw [frozen?_alloc_cells]; exact z1⟩
            case measure => simp [intOf]; omega
        · have ek : x.operands.take k = x.operands := List.take_of_length_le (by omega)
          rw [ek] at t0 t1
          clear ek
          generalize P0 + x.operands.countP (opIn values 0) = N0 at *
          generalize P1 + x.operands.countP (opIn values 1) = N1 at *
          have j0 : ∀ w : World, (Instr.index 23 (.agg #[.int .i64 N0, .int .i64 N1]) (.int .i64 0)).run Try.prog w = .ok (.int .i64 N0) w := fun _ => by kernel_rfl
          have j1 : ∀ w : World, (Instr.index 23 (.agg #[.int .i64 N0, .int .i64 N1]) (.int .i64 1)).run Try.prog w = .ok (.int .i64 N1) w := fun _ => by kernel_rfl
          by_cases f0 : m0 ≤ (N0 : Int)
          · have H : Hid (true = fullB values m0 m1 x) := by show _ = _; rw [HF.out]; simp [f0]
            clear HF
            go_wp2
            refine wp_loop_rounds 3 ?_
            rw [rounds_succ]
            go_wp2
            go_ret
            exact ⟨ret_bool H.out, hbwr⟩
          · by_cases f1 : m1 ≤ (N1 : Int)
            · have H : Hid (true = fullB values m0 m1 x) := by show _ = _; rw [HF.out]; simp [f1]
              clear HF
              go_wp2
              refine wp_loop_rounds 3 ?_
              rw [rounds_succ]
              go_wp2
              rw [rounds_succ]
              go_wp2
              go_ret
              exact ⟨ret_bool H.out, hbwr⟩
            · have H : Hid (false = fullB values m0 m1 x) := by show _ = _; rw [HF.out]; simp [f0, f1]
              clear HF
              go_wp2
              refine wp_loop_rounds 3 ?_
              rw [rounds_succ]
              go_wp2
              rw [rounds_succ]
              go_wp2
              rw [rounds_succ]
              go_wp2
              go_ret
              exact ⟨ret_bool H.out, hbwr⟩
end Go.Proofs.Ytglfpnnfcpnmoaa
namespace Go.Proofs.Ytglfpnnfcpnmoaa
open Go.RowKit
set_option linter.unusedVariables false

def opAt (l : List Opr) (i : Nat) : Opr := l.getD i ⟨0, 0, false, 0, 0⟩
def pairAt (values : List Int) (x : Ins) (i j : Nat) : Bool := pairB values x.operands (opAt x.operands j) (opAt x.operands i) j i
def spoilAt (values : List Int) (x : Ins) (i : Nat) : Bool := match fixedOf values x.operands (opAt x.operands i) with
  | some p => ((opAt x.operands i).late || decide ((opAt x.operands i).kind = 2)) && hasRg x.spoils p.1 p.2
  | none => false
def clashAt (values : List Int) (x : Ins) (i : Nat) : Bool := spoilAt values x i || (List.range i).any (pairAt values x i)
def clashB (values : List Int) (x : Ins) : Bool := (List.range x.operands.length).any (clashAt values x)

theorem opAt_eq (l : List Opr) (i : Nat) (h : i < l.length) : opAt l i = l[i] := by simp [opAt, List.getD, List.getElem?_eq_getElem h]
theorem pairAt_eq (values : List Int) (x : Ins) (i j : Nat) (hj : j < x.operands.length) (hi : i < x.operands.length) : pairAt values x i j = pairB values x.operands x.operands[j] x.operands[i] j i := by
  rw [pairAt, opAt_eq _ _ hj, opAt_eq _ _ hi]
theorem spoilAt_eq (values : List Int) (x : Ins) (i : Nat) (hi : i < x.operands.length) : spoilAt values x i = match fixedOf values x.operands x.operands[i] with
  | some p => (x.operands[i].late || decide (x.operands[i].kind = 2)) && hasRg x.spoils p.1 p.2
  | none => false := by
  rw [spoilAt, opAt_eq _ _ hi]
theorem range_snoc (p : Nat → Bool) (k : Nat) (h : (List.range k).any p = false) (h2 : p k = false) : (List.range (k + 1)).any p = false := by
  rw [List.range_succ, List.any_append, h]
  simp [h2]
theorem clashAt_no (values : List Int) (x : Ins) (k q : Nat) (e : q = k) (h : (List.range q).any (pairAt values x k) = false) (hs : spoilAt values x k = false) : clashAt values x k = false := by
  subst e
  rw [clashAt, hs, h]
  rfl
theorem clash_at (values : List Int) (x : Ins) (k : Nat) (hk : k < x.operands.length) (h : clashAt values x k = true) : clashB values x = true :=
  List.any_eq_true.2 ⟨k, List.mem_range.2 hk, h⟩

theorem pair_is (values : List Int) (av : Option Addr) (cv : Nat) (vb : Value) (m0 m1 : Int) (all : List Opr) (aa : Option Addr) (ca : Nat) (i j : Nat) (hi : i < all.length) (hj : j < all.length) (w : World) (r : Bool) (hr : pairB values all all[i] all[j] i j = r) (hv : SlOf w 1 RInt (.slice av values.length cv) values)
    (ha : SlOf w 5 ROpr (.slice aa all.length ca) all) (hN : ∀ o ∈ all, o.limit = 5 → 0 ≤ o.n ∧ o.n < (all.length : Int)) (hV : ∀ o ∈ all, isValueB values.length (named all o).value = true) :
    Calls Try.prog 70 #[.agg #[.slice av values.length cv, vb, .int .i64 m0, .int .i64 m1], .slice aa all.length ca, .int .i64 i, .int .i64 j] w fun e w' => e = .returned (.bool r) ∧ Below w.heap.size w w' := by
  rw [← hr]; exact pair_any values av cv vb m0 m1 all aa ca i j hi hj w hv ha hN hV

set_option maxHeartbeats 8000000 in
theorem clash_any (values : List Int) (av : Option Addr) (cv : Nat) (vb : Value) (m0 m1 : Int) (x : Ins) (ao asp : Option Addr) (co csp : Nat) (w : World) (hv : SlOf w 1 RInt (.slice av values.length cv) values)
    (ho : SlOf w 5 ROpr (.slice ao x.operands.length co) x.operands) (hs : SlOf w 2 RRg (.slice asp x.spoils.length csp) x.spoils)
    (hN : ∀ o ∈ x.operands, o.limit = 5 → 0 ≤ o.n ∧ o.n < (x.operands.length : Int)) (hV : ∀ o ∈ x.operands, isValueB values.length (named x.operands o).value = true) :
    Calls Try.prog 64 #[.agg #[.slice av values.length cv, vb, .int .i64 m0, .int .i64 m1], .agg #[.int .i64 x.op, .slice ao x.operands.length co, .slice asp x.spoils.length csp]] w fun e w' => e = .returned (.bool (clashB values x)) ∧ Below w.heap.size w w' := by
  obtain ⟨_, _, _, lv⟩ := hv.out
  obtain ⟨_, _, _, lo⟩ := ho.out
  obtain ⟨_, _, _, ls⟩ := hs.out
  unfold longest at lv lo ls
  obtain ⟨W2, hW2⟩ : ∃ W2, W2 = (w.alloc (.cells #[.slice av values.length cv, vb, .int .i64 m0, .int .i64 m1] 106)).alloc (.cells #[.int .i64 x.op, .slice ao x.operands.length co, .slice asp x.spoils.length csp] 44) := ⟨_, rfl⟩
  have hbw2 : Below w.heap.size w W2 := by rw [hW2]; exact ((Below.refl _ _).alloc (Nat.le_refl _) _).alloc (by simp) _
  have HC : ChkAt W2 w.heap.size (.slice av values.length cv) vb m0 m1 := by rw [hW2]; exact ⟨by simp; omega, by simp, by simp, by simp, by simp⟩
  have HI : InsAt W2 (w.heap.size + 1) x.op (.slice ao x.operands.length co) (.slice asp x.spoils.length csp) := by rw [hW2]; exact ⟨by simp, by simp, by simp, by simp⟩
  have HW : Hid (W2 = (w.alloc (.cells #[.slice av values.length cv, vb, .int .i64 m0, .int .i64 m1] 106)).alloc (.cells #[.int .i64 x.op, .slice ao x.operands.length co, .slice asp x.spoils.length csp] 44)) := hW2
  clear hW2
  go_enter Try.func64, Try.ntmps64
  go_wp2
  go_loopw [13] (fun i wr => ∃ k : Nat, k ≤ x.operands.length ∧ i = .int .i64 k ∧ Below (w.heap.size + 1 + 1) W2 wr ∧ w.heap.size + 1 < wr.heap.size ∧ Hid ((List.range k).any (clashAt values x) = false)) (fun i _ => x.operands.length - (intOf i).toNat)
  case atStart => exact ⟨0, Nat.zero_le _, rfl, by rw [HW.out]; exact Below.refl _ _, by simp, rfl⟩
  case round =>
    obtain ⟨k, hk, rfl, hbr, hz, HK⟩ := hrel
    have hbwr : Below w.heap.size w wr := hbw2.trans (hbr.mono (by omega))
    by_cases hlt : k < x.operands.length
    · obtain ⟨_, g0, g1, g2, g3⟩ := HC.below hbr (by omega)
      obtain ⟨_, i0, i1, i2⟩ := HI.below hbr (by omega)
      obtain ⟨b5, off5, rfl, hb5, c0, c1, c2, c3, c4⟩ := opr_cells (ho.below hbwr fun _ _ h => h) k hlt
      have hNk := hN _ (List.getElem_mem hlt)
      have hVk := hV _ (List.getElem_mem hlt)
      have LC := old_cell w.heap.size
      have LI0 := old_cell (w.heap.size + 1)
      have lc : w.heap.size < wr.heap.size := by omega
      have hba0 : Below wr.heap.size wr (wr.alloc (.cells #[.int .i64 x.operands[k].kind, .int .i64 x.operands[k].value, .bool x.operands[k].late, .int .i64 x.operands[k].limit, .int .i64 x.operands[k].n] 46)) := (Below.refl _ _).alloc (Nat.le_refl _) _
      have hv2 := (hv.below hbwr fun _ _ h => h).below hba0 fun _ _ h => h
      have ho2 := (ho.below hbwr fun _ _ h => h).below hba0 fun _ _ h => h
      cases hf : fixedOf values x.operands x.operands[k] with
      | none =>
        go_wp2_with fail
        refine (fixed_is values _ _ _ _ _ x.operands[k] x.operands _ _ _ none hf rfl hv2 ho2 hNk hVk).mono ?_
        rintro e w2 ⟨rfl, hb2⟩
        have hz2 := hb2.size
        simp at hz2
        have hbr2 : Below (w.heap.size + 1 + 1) W2 w2 := (hbr.alloc (by omega) _).trans (hb2.mono (by simp; omega))
        have HO : OprAt w2 wr.heap.size x.operands[k] := by
          refine OprAt.below (B := wr.heap.size + 1) ?_ (hb2.mono (by simp)) (by omega)
          exact ⟨by simp, by simp, by simp, by simp, by simp, by simp⟩
        clear hb2
        obtain ⟨_, o0, o1, o2, o3, o4⟩ := id HO
        obtain ⟨_, i0, i1, i2⟩ := HI.below hbr2 (by omega)
        have LO := old_cell wr.heap.size
        have LI := old_cell (w.heap.size + 1)
        have lo2 : wr.heap.size < w2.heap.size := by omega
        have li2 : w.heap.size + 1 < w2.heap.size := by omega
        have HS : Hid (spoilAt values x k = false) := by show _ = _; rw [spoilAt_eq values x k hlt]; simp [hf]
        have hbr3 := hbr2.alloc (by omega) (.cells #[.int .i64 0, .int .i64 0] 97)
        have hz3 : w.heap.size + 1 < (w2.alloc (.cells #[.int .i64 0, .int .i64 0] 97)).heap.size := by simp; omega
        go_wp2
        clear o0 o1 o2 o3 o4 i0 i1 i2 LO LI
        go_loopw [43] (fun j wr => ∃ q : Nat, q ≤ k ∧ j = .int .i64 q ∧ Below (w.heap.size + 1 + 1) W2 wr ∧ w.heap.size + 1 < wr.heap.size ∧ Hid ((List.range q).any (pairAt values x k) = false)) (fun j _ => k - (intOf j).toNat)
        case atStart => exact ⟨0, Nat.zero_le _, rfl, hbr3, hz3, rfl⟩
        case round =>
          clear hbr3 hz3
          obtain ⟨q, hq, rfl, hbr3, hz3, HQ⟩ := hrel
          have hbw3 : Below w.heap.size w wr := hbw2.trans (hbr3.mono (by omega))
          obtain ⟨_, g0, g1, g2, g3⟩ := HC.below hbr3 (by omega)
          obtain ⟨_, i0, i1, i2⟩ := HI.below hbr3 (by omega)
          by_cases hql : q < k
          · have hqx : q < x.operands.length := by omega
            have hv3 := hv.below hbw3 fun _ _ h => h
            have ho3 := ho.below hbw3 fun _ _ h => h
            cases hp : pairB values x.operands x.operands[q] x.operands[k] q k
            · have H : Hid ((List.range (q + 1)).any (pairAt values x k) = false) := range_snoc _ _ HQ.out (by rw [pairAt_eq values x k q hqx hlt]; exact hp)
              clear HQ
              go_wp2_with (go_at_call 70; refine (pair_is values _ _ _ _ _ x.operands _ _ q k hqx hlt _ false hp hv3 ho3 hN hV).mono ?_; rintro e w4 ⟨rfl, hb4⟩)
              have hz4 := hb4.size
              go_roundw
              case rel => exact ⟨q + 1, by omega, by go_num, hbr3.trans (hb4.mono (by omega)), by omega, H⟩
              case measure => simp [intOf]; omega
            · have H : Hid (true = clashB values x) := by
                show _ = _
                refine (clash_at values x k hlt ?_).symm
                refine Bool.or_eq_true_iff.2 (Or.inr ?_)
                refine List.any_eq_true.2 ⟨q, List.mem_range.2 hql, ?_⟩
                rw [pairAt_eq values x k q hqx hlt]; exact hp
              clear HQ
              go_wp2_with (go_at_call 70; refine (pair_is values _ _ _ _ _ x.operands _ _ q k hqx hlt _ true hp hv3 ho3 hN hV).mono ?_; rintro e w4 ⟨rfl, hb4⟩)
              go_ret
              exact ⟨ret_bool H.out, hbw3.trans (hb4.mono hbw3.size)⟩
          · have H : Hid ((List.range (k + 1)).any (clashAt values x) = false) := by
              refine range_snoc _ _ HK.out ?_
              exact clashAt_no values x k q (by omega) HQ.out HS.out
            clear HQ HS
            go_wp2
            go_roundw
            case rel => exact ⟨k + 1, by omega, by go_num, hbr3, hz3, H⟩
            case measure => simp [intOf]; omega
      | some p =>
        obtain ⟨rc, rn⟩ := p
        go_wp2_with fail
        refine (fixed_is values _ _ _ _ _ x.operands[k] x.operands _ _ _ (some (rc, rn)) hf rfl hv2 ho2 hNk hVk).mono ?_
        rintro e w2 ⟨rfl, hb2⟩
        have hz2 := hb2.size
        simp at hz2
        have hbr2 : Below (w.heap.size + 1 + 1) W2 w2 := (hbr.alloc (by omega) _).trans (hb2.mono (by simp; omega))
        have HO : OprAt w2 wr.heap.size x.operands[k] := by
          refine OprAt.below (B := wr.heap.size + 1) ?_ (hb2.mono (by simp)) (by omega)
          exact ⟨by simp, by simp, by simp, by simp, by simp, by simp⟩
        clear hb2
        obtain ⟨_, o0, o1, o2, o3, o4⟩ := id HO
        obtain ⟨_, i0, i1, i2⟩ := HI.below hbr2 (by omega)
        have LO := old_cell wr.heap.size
        have LI := old_cell (w.heap.size + 1)
        have lo2 : wr.heap.size < w2.heap.size := by omega
        have li2 : w.heap.size + 1 < w2.heap.size := by omega
        cases hlate : x.operands[k].late
        · rw [hlate] at o2
          by_cases hk2 : x.operands[k].kind = 2
          · have qk : (x.operands[k].kind == 2) = true := by simp [hk2]
            cases hh : hasRg x.spoils rc rn
            · have HS : Hid (spoilAt values x k = false) := by show _ = _; rw [spoilAt_eq values x k hlt]; simp [hf, hh]
              have hbs2 : Below w.heap.size w w2 := hbw2.trans (hbr2.mono (by omega))
              have hba : Below w2.heap.size w2 (w2.alloc (.cells #[.int .i64 rc, .int .i64 rn] 97)) := (Below.refl _ _).alloc (Nat.le_refl _) _
              have hs2 := (hs.below hbs2 fun _ _ h => h).below hba fun _ _ h => h
              go_wp2_with fail
              refine (contains_is x.spoils _ _ rc rn false hh _ hs2).mono ?_
              rintro e w4 ⟨rfl, hb4⟩
              have hz4 := hb4.size
              simp at hz4
              have hbr3 : Below (w.heap.size + 1 + 1) W2 w4 := (hbr2.alloc (by omega) _).trans (hb4.mono (by simp; omega))
              have hz3 : w.heap.size + 1 < w4.heap.size := by omega
              clear hb4
              go_wp2
              clear o0 o1 o2 o3 o4 i0 i1 i2 LO LI
              go_loopw [43] (fun j wr => ∃ q : Nat, q ≤ k ∧ j = .int .i64 q ∧ Below (w.heap.size + 1 + 1) W2 wr ∧ w.heap.size + 1 < wr.heap.size ∧ Hid ((List.range q).any (pairAt values x k) = false)) (fun j _ => k - (intOf j).toNat)
              case atStart => exact ⟨0, Nat.zero_le _, rfl, hbr3, hz3, rfl⟩
              case round =>
                clear hbr3 hz3
                obtain ⟨q, hq, rfl, hbr3, hz3, HQ⟩ := hrel
                have hbw3 : Below w.heap.size w wr := hbw2.trans (hbr3.mono (by omega))
                obtain ⟨_, g0, g1, g2, g3⟩ := HC.below hbr3 (by omega)
                obtain ⟨_, i0, i1, i2⟩ := HI.below hbr3 (by omega)
                by_cases hql : q < k
                · have hqx : q < x.operands.length := by omega
                  have hv3 := hv.below hbw3 fun _ _ h => h
                  have ho3 := ho.below hbw3 fun _ _ h => h
                  cases hp : pairB values x.operands x.operands[q] x.operands[k] q k
                  · have H : Hid ((List.range (q + 1)).any (pairAt values x k) = false) := range_snoc _ _ HQ.out (by rw [pairAt_eq values x k q hqx hlt]; exact hp)
                    clear HQ
                    go_wp2_with (go_at_call 70; refine (pair_is values _ _ _ _ _ x.operands _ _ q k hqx hlt _ false hp hv3 ho3 hN hV).mono ?_; rintro e w4 ⟨rfl, hb4⟩)
                    have hz4 := hb4.size
                    go_roundw
                    case rel => exact ⟨q + 1, by omega, by go_num, hbr3.trans (hb4.mono (by omega)), by omega, H⟩
                    case measure => simp [intOf]; omega
                  · have H : Hid (true = clashB values x) := by
                      show _ = _
                      refine (clash_at values x k hlt ?_).symm
                      refine Bool.or_eq_true_iff.2 (Or.inr ?_)
                      refine List.any_eq_true.2 ⟨q, List.mem_range.2 hql, ?_⟩
                      rw [pairAt_eq values x k q hqx hlt]; exact hp
                    clear HQ
                    go_wp2_with (go_at_call 70; refine (pair_is values _ _ _ _ _ x.operands _ _ q k hqx hlt _ true hp hv3 ho3 hN hV).mono ?_; rintro e w4 ⟨rfl, hb4⟩)
                    go_ret
                    exact ⟨ret_bool H.out, hbw3.trans (hb4.mono hbw3.size)⟩
                · have H : Hid ((List.range (k + 1)).any (clashAt values x) = false) := by
                    refine range_snoc _ _ HK.out ?_
                    exact clashAt_no values x k q (by omega) HQ.out HS.out
                  clear HQ HS
                  go_wp2
                  go_roundw
                  case rel => exact ⟨k + 1, by omega, by go_num, hbr3, hz3, H⟩
                  case measure => simp [intOf]; omega
            · have H : Hid (true = clashB values x) := by
                show _ = _
                refine (clash_at values x k hlt ?_).symm
                refine Bool.or_eq_true_iff.2 (Or.inl ?_)
                rw [spoilAt_eq values x k hlt]
                simp [hf, hh, hk2]
              have hbs2 : Below w.heap.size w w2 := hbw2.trans (hbr2.mono (by omega))
              have hba : Below w2.heap.size w2 (w2.alloc (.cells #[.int .i64 rc, .int .i64 rn] 97)) := (Below.refl _ _).alloc (Nat.le_refl _) _
              have hs2 := (hs.below hbs2 fun _ _ h => h).below hba fun _ _ h => h
              go_wp2_with fail
              refine (contains_is x.spoils _ _ rc rn true hh _ hs2).mono ?_
              rintro e w4 ⟨rfl, hb4⟩
              go_wp2
              go_ret
              exact ⟨ret_bool H.out, hbs2.trans ((Below.trans (hba.mono (Nat.le_refl _)) (hb4.mono (by simp))).mono hbs2.size)⟩
          · have qk : (x.operands[k].kind == 2) = false := by simpa using hk2
            have HS : Hid (spoilAt values x k = false) := by show _ = _; rw [spoilAt_eq values x k hlt]; simp [hf, hlate, hk2]
            have hbr3 := hbr2.alloc (by omega) (.cells #[.int .i64 rc, .int .i64 rn] 97)
            have hz3 : w.heap.size + 1 < (w2.alloc (.cells #[.int .i64 rc, .int .i64 rn] 97)).heap.size := by simp; omega
            go_wp2
            clear o0 o1 o2 o3 o4 i0 i1 i2 LO LI
            go_loopw [43] (fun j wr => ∃ q : Nat, q ≤ k ∧ j = .int .i64 q ∧ Below (w.heap.size + 1 + 1) W2 wr ∧ w.heap.size + 1 < wr.heap.size ∧ Hid ((List.range q).any (pairAt values x k) = false)) (fun j _ => k - (intOf j).toNat)
            case atStart => exact ⟨0, Nat.zero_le _, rfl, hbr3, hz3, rfl⟩
            case round =>
              clear hbr3 hz3
              obtain ⟨q, hq, rfl, hbr3, hz3, HQ⟩ := hrel
              have hbw3 : Below w.heap.size w wr := hbw2.trans (hbr3.mono (by omega))
              obtain ⟨_, g0, g1, g2, g3⟩ := HC.below hbr3 (by omega)
              obtain ⟨_, i0, i1, i2⟩ := HI.below hbr3 (by omega)
              by_cases hql : q < k
              · have hqx : q < x.operands.length := by omega
                have hv3 := hv.below hbw3 fun _ _ h => h
                have ho3 := ho.below hbw3 fun _ _ h => h
                cases hp : pairB values x.operands x.operands[q] x.operands[k] q k
                · have H : Hid ((List.range (q + 1)).any (pairAt values x k) = false) := range_snoc _ _ HQ.out (by rw [pairAt_eq values x k q hqx hlt]; exact hp)
                  clear HQ
                  go_wp2_with (go_at_call 70; refine (pair_is values _ _ _ _ _ x.operands _ _ q k hqx hlt _ false hp hv3 ho3 hN hV).mono ?_; rintro e w4 ⟨rfl, hb4⟩)
                  have hz4 := hb4.size
                  go_roundw
                  case rel => exact ⟨q + 1, by omega, by go_num, hbr3.trans (hb4.mono (by omega)), by omega, H⟩
                  case measure => simp [intOf]; omega
                · have H : Hid (true = clashB values x) := by
                    show _ = _
                    refine (clash_at values x k hlt ?_).symm
                    refine Bool.or_eq_true_iff.2 (Or.inr ?_)
                    refine List.any_eq_true.2 ⟨q, List.mem_range.2 hql, ?_⟩
                    rw [pairAt_eq values x k q hqx hlt]; exact hp
                  clear HQ
                  go_wp2_with (go_at_call 70; refine (pair_is values _ _ _ _ _ x.operands _ _ q k hqx hlt _ true hp hv3 ho3 hN hV).mono ?_; rintro e w4 ⟨rfl, hb4⟩)
                  go_ret
                  exact ⟨ret_bool H.out, hbw3.trans (hb4.mono hbw3.size)⟩
              · have H : Hid ((List.range (k + 1)).any (clashAt values x) = false) := by
                  refine range_snoc _ _ HK.out ?_
                  exact clashAt_no values x k q (by omega) HQ.out HS.out
                clear HQ HS
                go_wp2
                go_roundw
                case rel => exact ⟨k + 1, by omega, by go_num, hbr3, hz3, H⟩
                case measure => simp [intOf]; omega
        · rw [hlate] at o2
          cases hh : hasRg x.spoils rc rn
          · have HS : Hid (spoilAt values x k = false) := by show _ = _; rw [spoilAt_eq values x k hlt]; simp [hf, hh]
            have hbs2 : Below w.heap.size w w2 := hbw2.trans (hbr2.mono (by omega))
            have hba : Below w2.heap.size w2 (w2.alloc (.cells #[.int .i64 rc, .int .i64 rn] 97)) := (Below.refl _ _).alloc (Nat.le_refl _) _
            have hs2 := (hs.below hbs2 fun _ _ h => h).below hba fun _ _ h => h
            go_wp2_with fail
            refine (contains_is x.spoils _ _ rc rn false hh _ hs2).mono ?_
            rintro e w4 ⟨rfl, hb4⟩
            have hz4 := hb4.size
            simp at hz4
            have hbr3 : Below (w.heap.size + 1 + 1) W2 w4 := (hbr2.alloc (by omega) _).trans (hb4.mono (by simp; omega))
            have hz3 : w.heap.size + 1 < w4.heap.size := by omega
            clear hb4
            go_wp2
            clear o0 o1 o2 o3 o4 i0 i1 i2 LO LI
            go_loopw [43] (fun j wr => ∃ q : Nat, q ≤ k ∧ j = .int .i64 q ∧ Below (w.heap.size + 1 + 1) W2 wr ∧ w.heap.size + 1 < wr.heap.size ∧ Hid ((List.range q).any (pairAt values x k) = false)) (fun j _ => k - (intOf j).toNat)
            case atStart => exact ⟨0, Nat.zero_le _, rfl, hbr3, hz3, rfl⟩
            case round =>
              clear hbr3 hz3
              obtain ⟨q, hq, rfl, hbr3, hz3, HQ⟩ := hrel
              have hbw3 : Below w.heap.size w wr := hbw2.trans (hbr3.mono (by omega))
              obtain ⟨_, g0, g1, g2, g3⟩ := HC.below hbr3 (by omega)
              obtain ⟨_, i0, i1, i2⟩ := HI.below hbr3 (by omega)
              by_cases hql : q < k
              · have hqx : q < x.operands.length := by omega
                have hv3 := hv.below hbw3 fun _ _ h => h
                have ho3 := ho.below hbw3 fun _ _ h => h
                cases hp : pairB values x.operands x.operands[q] x.operands[k] q k
                · have H : Hid ((List.range (q + 1)).any (pairAt values x k) = false) := range_snoc _ _ HQ.out (by rw [pairAt_eq values x k q hqx hlt]; exact hp)
                  clear HQ
                  go_wp2_with (go_at_call 70; refine (pair_is values _ _ _ _ _ x.operands _ _ q k hqx hlt _ false hp hv3 ho3 hN hV).mono ?_; rintro e w4 ⟨rfl, hb4⟩)
                  have hz4 := hb4.size
                  go_roundw
                  case rel => exact ⟨q + 1, by omega, by go_num, hbr3.trans (hb4.mono (by omega)), by omega, H⟩
                  case measure => simp [intOf]; omega
                · have H : Hid (true = clashB values x) := by
                    show _ = _
                    refine (clash_at values x k hlt ?_).symm
                    refine Bool.or_eq_true_iff.2 (Or.inr ?_)
                    refine List.any_eq_true.2 ⟨q, List.mem_range.2 hql, ?_⟩
                    rw [pairAt_eq values x k q hqx hlt]; exact hp
                  clear HQ
                  go_wp2_with (go_at_call 70; refine (pair_is values _ _ _ _ _ x.operands _ _ q k hqx hlt _ true hp hv3 ho3 hN hV).mono ?_; rintro e w4 ⟨rfl, hb4⟩)
                  go_ret
                  exact ⟨ret_bool H.out, hbw3.trans (hb4.mono hbw3.size)⟩
              · have H : Hid ((List.range (k + 1)).any (clashAt values x) = false) := by
                  refine range_snoc _ _ HK.out ?_
                  exact clashAt_no values x k q (by omega) HQ.out HS.out
                clear HQ HS
                go_wp2
                go_roundw
                case rel => exact ⟨k + 1, by omega, by go_num, hbr3, hz3, H⟩
                case measure => simp [intOf]; omega
          · have H : Hid (true = clashB values x) := by
              show _ = _
              refine (clash_at values x k hlt ?_).symm
              refine Bool.or_eq_true_iff.2 (Or.inl ?_)
              rw [spoilAt_eq values x k hlt]
              simp [hf, hh, hlate]
            have hbs2 : Below w.heap.size w w2 := hbw2.trans (hbr2.mono (by omega))
            have hba : Below w2.heap.size w2 (w2.alloc (.cells #[.int .i64 rc, .int .i64 rn] 97)) := (Below.refl _ _).alloc (Nat.le_refl _) _
            have hs2 := (hs.below hbs2 fun _ _ h => h).below hba fun _ _ h => h
            go_wp2_with fail
            refine (contains_is x.spoils _ _ rc rn true hh _ hs2).mono ?_
            rintro e w4 ⟨rfl, hb4⟩
            go_wp2
            go_ret
            exact ⟨ret_bool H.out, hbs2.trans ((Below.trans (hba.mono (Nat.le_refl _)) (hb4.mono (by simp))).mono hbs2.size)⟩
    · have H : Hid (false = clashB values x) := by
        show _ = _
        have e : k = x.operands.length := by omega
        rw [clashB, ← e, HK.out]
      clear HK
      go_wp2
      go_ret
      exact ⟨ret_bool H.out, hbwr⟩
end Go.Proofs.Ytglfpnnfcpnmoaa
namespace Go.Proofs.Ytglfpnnfcpnmoaa
open Go.RowKit
set_option linter.unusedVariables false

def firstE {α : Type} (f : α → Int) : List α → Int
  | [] => 0
  | a :: r => if f a = 0 then firstE f r else f a
def reE (values : List Int) (x : Ins) (o : Opr) : Int := if o.limit = 5 then reuseErr values o x.operands else 0
def instrErr (values : List Int) (m0 m1 : Int) (x : Ins) : Int :=
  if x.op < 0 ∨ 255 < x.op then 2
  else if firstE (oprErr values m0 m1) x.operands ≠ 0 then firstE (oprErr values m0 m1) x.operands
  else if firstE (reE values x) x.operands ≠ 0 then firstE (reE values x) x.operands
  else if spErr m0 m1 none x.spoils ≠ 0 then spErr m0 m1 none x.spoils
  else if clashB values x = true then 12 else if fullB values m0 m1 x = true then 8 else 0

theorem firstE_drop0 {α : Type} (f : α → Int) (l : List α) (k : Nat) (h : k < l.length) (h0 : f l[k] = 0) : firstE f (l.drop (k + 1)) = firstE f (l.drop k) := by
  rw [List.drop_eq_getElem_cons h, firstE, if_pos h0]
theorem firstE_drop1 {α : Type} (f : α → Int) (l : List α) (k : Nat) (h : k < l.length) (h0 : ¬ f l[k] = 0) : firstE f (l.drop k) = f l[k] := by
  rw [List.drop_eq_getElem_cons h, firstE, if_neg h0]
theorem firstE_zero {α : Type} (f : α → Int) : ∀ (l : List α), firstE f l = 0 → ∀ a ∈ l, f a = 0
  | [], _ => by simp
  | b :: r, h => by
    unfold firstE at h
    by_cases hb : f b = 0
    · rw [if_pos hb] at h
      intro a ha
      rcases List.mem_cons.1 ha with rfl | ha
      · exact hb
      · exact firstE_zero f r h a ha
    · rw [if_neg hb] at h
      exact absurd h hb
theorem instrErr_opr (values : List Int) (m0 m1 : Int) (x : Ins) (e : Int) (hop : ¬ (x.op < 0 ∨ 255 < x.op)) (h : firstE (oprErr values m0 m1) x.operands = e) (he : ¬ e = 0) : instrErr values m0 m1 x = e := by
  unfold instrErr
  rw [if_neg hop, h, if_pos he]
theorem instrErr_re (values : List Int) (m0 m1 : Int) (x : Ins) (e : Int) (hop : ¬ (x.op < 0 ∨ 255 < x.op)) (h1 : firstE (oprErr values m0 m1) x.operands = 0) (h : firstE (reE values x) x.operands = e) (he : ¬ e = 0) : instrErr values m0 m1 x = e := by
  unfold instrErr
  rw [if_neg hop, h1, if_neg (by simp), h, if_pos he]
theorem oprErr_value {values : List Int} {m0 m1 : Int} {o : Opr} (h : oprErr values m0 m1 o = 0) : isValueB values.length o.value = true := by
  unfold oprErr at h
  cases hv : isValueB values.length o.value
  · rw [hv] at h
    split at h
    · simp at h
    · split at h
      · simp at h
      · simp at h
  · rfl
theorem reE_bound {values : List Int} {x : Ins} {o : Opr} (h : reE values x o = 0) (h5 : o.limit = 5) : 0 ≤ o.n ∧ o.n < (x.operands.length : Int) := by
  unfold reE at h
  rw [if_pos h5] at h
  unfold reuseErr at h
  by_cases hb : o.n < 0 ∨ (x.operands.length : Int) ≤ o.n
  · rw [if_pos hb] at h; simp at h
  · omega
theorem named_value {values : List Int} (all : List Opr) (o : Opr) (ho : o ∈ all) (hN : ∀ o ∈ all, o.limit = 5 → 0 ≤ o.n ∧ o.n < (all.length : Int)) (hOV : ∀ o ∈ all, isValueB values.length o.value = true) : isValueB values.length (named all o).value = true := by
  unfold named
  by_cases h5 : o.limit = 5
  · rw [if_pos h5]
    obtain ⟨h0, h1⟩ := hN o ho h5
    have hi : o.n.toNat < all.length := by omega
    simp only [List.getD, List.getElem?_eq_getElem hi, Option.getD_some]
    exact hOV _ (List.getElem_mem hi)
  · rw [if_neg h5]
    exact hOV o ho
theorem spErr_class (m0 m1 : Int) : ∀ (l : List Rg) (p : Option Rg), spErr m0 m1 p l = 0 → ∀ r ∈ l, r.cls = 0 ∨ r.cls = 1
  | [], _, _ => by simp
  | b :: r, p, h => by
    unfold spErr at h
    cases hg : givB m0 m1 b.cls b.n
    · rw [if_pos hg] at h; simp at h
    · rw [if_neg (by simp [hg])] at h
      have hb : b.cls = 0 ∨ b.cls = 1 := by
        have : isClassB b.cls = true := by simp [givB] at hg; exact hg.1
        simp [isClassB] at this
        omega
      have hr : spErr m0 m1 (some b) r = 0 := by
        cases p with
        | none => simpa using h
        | some q =>
          simp only at h
          split at h
          · simp at h
          · exact h
      intro a ha
      rcases List.mem_cons.1 ha with rfl | ha
      · exact hb
      · exact spErr_class m0 m1 r (some b) hr a ha

theorem operand_is (values : List Int) (av : Option Addr) (cv : Nat) (vb : Value) (m0 m1 : Int) (o : Opr) (w : World) (r : Int) (h : oprErr values m0 m1 o = r) (hv : SlOf w 1 RInt (.slice av values.length cv) values) :
    Calls Try.prog 61 #[.agg #[.slice av values.length cv, vb, .int .i64 m0, .int .i64 m1], .agg #[.int .i64 o.kind, .int .i64 o.value, .bool o.late, .int .i64 o.limit, .int .i64 o.n]] w fun e w' => e = .returned (.int .i64 r) ∧ Below w.heap.size w w' := by
  rw [← h]; exact operand_any' values av cv vb m0 m1 o w hv
theorem reuse_is (values : List Int) (av : Option Addr) (cv : Nat) (vb : Value) (m0 m1 : Int) (o : Opr) (all : List Opr) (aa : Option Addr) (ca : Nat) (w : World) (r : Int) (h : reuseErr values o all = r) (hv : SlOf w 1 RInt (.slice av values.length cv) values)
    (ha : SlOf w 5 ROpr (.slice aa all.length ca) all) (hov : isValueB values.length o.value = true) (hall : ∀ u ∈ all, isValueB values.length u.value = true) :
    Calls Try.prog 62 #[.agg #[.slice av values.length cv, vb, .int .i64 m0, .int .i64 m1], .agg #[.int .i64 o.kind, .int .i64 o.value, .bool o.late, .int .i64 o.limit, .int .i64 o.n], .slice aa all.length ca] w fun e w' => e = .returned (.int .i64 r) ∧ Below w.heap.size w w' := by
  rw [← h]; exact reuse_any values av cv vb m0 m1 o all aa ca w hv ha hov hall
theorem spoils_is (vv vb : Value) (m0 m1 : Int) (l : List Rg) (al : Option Addr) (cl : Nat) (w : World) (r : Int) (h : spErr m0 m1 none l = r) (hl : SlOf w 2 RRg (.slice al l.length cl) l) :
    Calls Try.prog 63 #[.agg #[vv, vb, .int .i64 m0, .int .i64 m1], .slice al l.length cl] w fun e w' => e = .returned (.int .i64 r) ∧ Below w.heap.size w w' := by
  rw [← h]; exact spoils_any vv vb m0 m1 l al cl w hl
theorem clash_is (values : List Int) (av : Option Addr) (cv : Nat) (vb : Value) (m0 m1 : Int) (x : Ins) (ao asp : Option Addr) (co csp : Nat) (w : World) (r : Bool) (h : clashB values x = r) (hv : SlOf w 1 RInt (.slice av values.length cv) values)
    (ho : SlOf w 5 ROpr (.slice ao x.operands.length co) x.operands) (hs : SlOf w 2 RRg (.slice asp x.spoils.length csp) x.spoils)
    (hN : ∀ o ∈ x.operands, o.limit = 5 → 0 ≤ o.n ∧ o.n < (x.operands.length : Int)) (hV : ∀ o ∈ x.operands, isValueB values.length (named x.operands o).value = true) :
    Calls Try.prog 64 #[.agg #[.slice av values.length cv, vb, .int .i64 m0, .int .i64 m1], .agg #[.int .i64 x.op, .slice ao x.operands.length co, .slice asp x.spoils.length csp]] w fun e w' => e = .returned (.bool r) ∧ Below w.heap.size w w' := by
  rw [← h]; exact clash_any values av cv vb m0 m1 x ao asp co csp w hv ho hs hN hV
theorem full_is (values : List Int) (av : Option Addr) (cv : Nat) (vb : Value) (m0 m1 : Int) (x : Ins) (ao asp : Option Addr) (co csp : Nat) (w : World) (r : Bool) (h : fullB values m0 m1 x = r) (hv : SlOf w 1 RInt (.slice av values.length cv) values)
    (ho : SlOf w 5 ROpr (.slice ao x.operands.length co) x.operands) (hs : SlOf w 2 RRg (.slice asp x.spoils.length csp) x.spoils)
    (hO : ∀ o ∈ x.operands, isValueB values.length o.value = true) (hcl : ∀ v, isValueB values.length v = true → classAt values v = 0 ∨ classAt values v = 1) (hS : ∀ r ∈ x.spoils, r.cls = 0 ∨ r.cls = 1) :
    Calls Try.prog 65 #[.agg #[.slice av values.length cv, vb, .int .i64 m0, .int .i64 m1], .agg #[.int .i64 x.op, .slice ao x.operands.length co, .slice asp x.spoils.length csp]] w fun e w' => e = .returned (.bool r) ∧ Below w.heap.size w w' := by
  rw [← h]; exact full_any values av cv vb m0 m1 x ao asp co csp w hv ho hs hO hcl hS

set_option maxHeartbeats 8000000 in
theorem instr_any (values : List Int) (av : Option Addr) (cv : Nat) (vb : Value) (m0 m1 : Int) (x : Ins) (ao asp : Option Addr) (co csp : Nat) (w : World) (hv : SlOf w 1 RInt (.slice av values.length cv) values)
    (ho : SlOf w 5 ROpr (.slice ao x.operands.length co) x.operands) (hs : SlOf w 2 RRg (.slice asp x.spoils.length csp) x.spoils)
    (hcls : ∀ v, isValueB values.length v = true → classAt values v = 0 ∨ classAt values v = 1) :
    Calls Try.prog 55 #[.agg #[.slice av values.length cv, vb, .int .i64 m0, .int .i64 m1], .agg #[.int .i64 x.op, .slice ao x.operands.length co, .slice asp x.spoils.length csp]] w fun e w' => e = .returned (.int .i64 (instrErr values m0 m1 x)) ∧ Below w.heap.size w w' := by
  obtain ⟨_, _, _, lv⟩ := hv.out
  obtain ⟨_, _, _, lo⟩ := ho.out
  obtain ⟨_, _, _, ls⟩ := hs.out
  unfold longest at lv lo ls
  obtain ⟨W2, hW2⟩ : ∃ W2, W2 = (w.alloc (.cells #[.slice av values.length cv, vb, .int .i64 m0, .int .i64 m1] 106)).alloc (.cells #[.int .i64 x.op, .slice ao x.operands.length co, .slice asp x.spoils.length csp] 44) := ⟨_, rfl⟩
  have hbw2 : Below w.heap.size w W2 := by rw [hW2]; exact ((Below.refl _ _).alloc (Nat.le_refl _) _).alloc (by simp) _
  have HC : ChkAt W2 w.heap.size (.slice av values.length cv) vb m0 m1 := by rw [hW2]; exact ⟨by simp; omega, by simp, by simp, by simp, by simp⟩
  have HI : InsAt W2 (w.heap.size + 1) x.op (.slice ao x.operands.length co) (.slice asp x.spoils.length csp) := by rw [hW2]; exact ⟨by simp, by simp, by simp, by simp⟩
  have HW : Hid (W2 = (w.alloc (.cells #[.slice av values.length cv, vb, .int .i64 m0, .int .i64 m1] 106)).alloc (.cells #[.int .i64 x.op, .slice ao x.operands.length co, .slice asp x.spoils.length csp] 44)) := hW2
  clear hW2
  by_cases hop0 : x.op < 0
  · have H : Hid (2 = instrErr values m0 m1 x) := by show _ = _; unfold instrErr; rw [if_pos (Or.inl hop0)]
    rw [HW.out] at hbw2
    go_enter Try.func55, Try.ntmps55
    go_wp2
    go_ret
    exact ⟨ret_int H.out, hbw2⟩
  · by_cases hop1 : 255 < x.op
    · have H : Hid (2 = instrErr values m0 m1 x) := by show _ = _; unfold instrErr; rw [if_pos (Or.inr hop1)]
      rw [HW.out] at hbw2
      go_enter Try.func55, Try.ntmps55
      go_wp2
      go_ret
      exact ⟨ret_int H.out, hbw2⟩
    · have hop : ¬ (x.op < 0 ∨ 255 < x.op) := by omega
      go_enter Try.func55, Try.ntmps55
      go_wp2
      go_loopw [23] (fun i wr => ∃ k : Nat, k ≤ x.operands.length ∧ i = .int .i64 k ∧ Below (w.heap.size + 1 + 1) W2 wr ∧ w.heap.size + 1 < wr.heap.size ∧ Hid (firstE (oprErr values m0 m1) (x.operands.drop k) = firstE (oprErr values m0 m1) x.operands)) (fun i _ => x.operands.length - (intOf i).toNat)
      case atStart => exact ⟨0, Nat.zero_le _, rfl, by rw [HW.out]; exact Below.refl _ _, by simp, rfl⟩
      case round =>
        obtain ⟨k, hk, rfl, hbr, hz, HK⟩ := hrel
        have hbwr : Below w.heap.size w wr := hbw2.trans (hbr.mono (by omega))
        by_cases hlt : k < x.operands.length
        · skip
          obtain ⟨_, g0, g1, g2, g3⟩ := HC.below hbr (by omega)
          obtain ⟨_, i0, i1, i2⟩ := HI.below hbr (by omega)
          obtain ⟨b5, off5, rfl, hb5, c0, c1, c2, c3, c4⟩ := opr_cells (ho.below hbwr fun _ _ h => h) k hlt
          have LC := old_cell w.heap.size
          have LI0 := old_cell (w.heap.size + 1)
          have lc : w.heap.size < wr.heap.size := by omega
          have hba0 : Below wr.heap.size wr (wr.alloc (.cells #[.int .i64 x.operands[k].kind, .int .i64 x.operands[k].value, .bool x.operands[k].late, .int .i64 x.operands[k].limit, .int .i64 x.operands[k].n] 46)) := (Below.refl _ _).alloc (Nat.le_refl _) _
          have hv2 := (hv.below hbwr fun _ _ h => h).below hba0 fun _ _ h => h
          have ho2 := (ho.below hbwr fun _ _ h => h).below hba0 fun _ _ h => h
          by_cases he : oprErr values m0 m1 x.operands[k] = 0
          · have H : Hid (firstE (oprErr values m0 m1) (x.operands.drop (k + 1)) = firstE (oprErr values m0 m1) x.operands) := (firstE_drop0 _ _ _ hlt he).trans HK.out
            clear HK
            go_wp2_with (go_at_call 61; refine (operand_is values _ _ _ _ _ x.operands[k] _ 0 he hv2).mono ?_; rintro e w2 ⟨rfl, hb2⟩)
            have hz2 := hb2.size
            simp at hz2
            go_roundw
            case rel => exact ⟨k + 1, by omega, by go_num, (hbr.alloc (by omega) _).trans (hb2.mono (by simp; omega)), by omega, H⟩
            case measure => simp [intOf]; omega
          · have hE : instrErr values m0 m1 x = oprErr values m0 m1 x.operands[k] := instrErr_opr values m0 m1 x _ hop ((HK.out.symm.trans (firstE_drop1 _ _ _ hlt he))) he
            have ⟨er, her⟩ : ∃ er, oprErr values m0 m1 x.operands[k] = er := ⟨_, rfl⟩
            rw [her] at hE he
            have H : Hid (er = instrErr values m0 m1 x) := hE.symm
            have hne : (er != 0) = true := by simpa using he
            clear HK hE he
            go_wp2_with (go_at_call 61; refine (operand_is values _ _ _ _ _ x.operands[k] _ er her hv2).mono ?_; rintro e w2 ⟨rfl, hb2⟩)
            go_ret
            exact ⟨ret_int H.out, (hbwr.alloc (by omega) _).trans (hb2.mono (by simp; omega))⟩
        · have HE1 : Hid (firstE (oprErr values m0 m1) x.operands = 0) := by
            show _ = _
            rw [← HK.out, List.drop_of_length_le (by omega)]
            rfl
          clear HK
          have hE1 := firstE_zero _ _ HE1.out
          have hOV : ∀ o ∈ x.operands, isValueB values.length o.value = true := fun o ho => oprErr_value (hE1 o ho)
          obtain ⟨_, i0, i1, i2⟩ := HI.below hbr (by omega)
          go_wp2
          clear i0 i1 i2
          go_loopw [37] (fun i wr => ∃ k : Nat, k ≤ x.operands.length ∧ i = .int .i64 k ∧ Below (w.heap.size + 1 + 1) W2 wr ∧ w.heap.size + 1 < wr.heap.size ∧ Hid (firstE (reE values x) (x.operands.drop k) = firstE (reE values x) x.operands)) (fun i _ => x.operands.length - (intOf i).toNat)
          case atStart => exact ⟨0, Nat.zero_le _, rfl, hbr, hz, rfl⟩
          case round =>
            clear hz hbwr hbr hlt
            obtain ⟨k, hk2, rfl, hbr, hz, HK⟩ := hrel
            have hbwr : Below w.heap.size w wr := hbw2.trans (hbr.mono (by omega))
            by_cases hlt : k < x.operands.length
            · skip
              obtain ⟨_, g0, g1, g2, g3⟩ := HC.below hbr (by omega)
              obtain ⟨_, i0, i1, i2⟩ := HI.below hbr (by omega)
              obtain ⟨b5, off5, rfl, hb5, c0, c1, c2, c3, c4⟩ := opr_cells (ho.below hbwr fun _ _ h => h) k hlt
              have LC := old_cell w.heap.size
              have LI0 := old_cell (w.heap.size + 1)
              have lc : w.heap.size < wr.heap.size := by omega
              have hba0 : Below wr.heap.size wr (wr.alloc (.cells #[.int .i64 x.operands[k].kind, .int .i64 x.operands[k].value, .bool x.operands[k].late, .int .i64 x.operands[k].limit, .int .i64 x.operands[k].n] 46)) := (Below.refl _ _).alloc (Nat.le_refl _) _
              have hv2 := (hv.below hbwr fun _ _ h => h).below hba0 fun _ _ h => h
              have ho2 := (ho.below hbwr fun _ _ h => h).below hba0 fun _ _ h => h
              have hov := oprErr_value (hE1 _ (List.getElem_mem hlt))
              by_cases h5 : x.operands[k].limit = 5
              · have q5 : (x.operands[k].limit != 5) = false := by simp [h5]
                by_cases he : reuseErr values x.operands[k] x.operands = 0
                · have H : Hid (firstE (reE values x) (x.operands.drop (k + 1)) = firstE (reE values x) x.operands) := (firstE_drop0 _ _ _ hlt (by simp [reE, h5, he])).trans HK.out
                  clear HK h5
                  go_wp2_with (go_at_call 62; refine (reuse_is values _ _ _ _ _ x.operands[k] x.operands _ _ _ 0 he hv2 ho2 hov hOV).mono ?_; rintro e w2 ⟨rfl, hb2⟩)
                  have hz2 := hb2.size
                  simp at hz2
                  go_roundw
                  case rel => exact ⟨k + 1, by omega, by go_num, (hbr.alloc (by omega) _).trans (hb2.mono (by simp; omega)), by omega, H⟩
                  case measure => simp [intOf]; omega
                · have hE : instrErr values m0 m1 x = reuseErr values x.operands[k] x.operands := instrErr_re values m0 m1 x _ hop HE1.out ((HK.out.symm.trans (firstE_drop1 _ _ _ hlt (by simp [reE, h5, he]))).trans (by simp [reE, h5])) he
                  have ⟨er, her⟩ : ∃ er, reuseErr values x.operands[k] x.operands = er := ⟨_, rfl⟩
                  rw [her] at hE he
                  have H : Hid (er = instrErr values m0 m1 x) := hE.symm
                  have hne : (er != 0) = true := by simpa using he
                  clear HK hE he h5
                  go_wp2_with (go_at_call 62; refine (reuse_is values _ _ _ _ _ x.operands[k] x.operands _ _ _ er her hv2 ho2 hov hOV).mono ?_; rintro e w2 ⟨rfl, hb2⟩)
                  go_ret
                  exact ⟨ret_int H.out, (hbwr.alloc (by omega) _).trans (hb2.mono (by simp; omega))⟩
              · have q5 : (x.operands[k].limit != 5) = true := by simpa using h5
                have H : Hid (firstE (reE values x) (x.operands.drop (k + 1)) = firstE (reE values x) x.operands) := (firstE_drop0 _ _ _ hlt (by simp [reE, h5])).trans HK.out
                clear HK h5
                go_wp2
                go_roundw
                case rel => exact ⟨k + 1, by omega, by go_num, hbr.alloc (by omega) _, by simp; omega, H⟩
                case measure => simp [intOf]; omega
            · skip
              have HE2 : Hid (firstE (reE values x) x.operands = 0) := by
                show _ = _
                rw [← HK.out, List.drop_of_length_le (by omega)]
                rfl
              clear HK
              have hE2 := firstE_zero _ _ HE2.out
              have hN : ∀ o ∈ x.operands, o.limit = 5 → 0 ≤ o.n ∧ o.n < (x.operands.length : Int) := fun o ho h5 => reE_bound (hE2 o ho) h5
              have hV : ∀ o ∈ x.operands, isValueB values.length (named x.operands o).value = true := fun o ho => named_value x.operands o ho hN hOV
              clear hE2
              obtain ⟨_, g0, g1, g2, g3⟩ := HC.below hbr (by omega)
              obtain ⟨_, i0, i1, i2⟩ := HI.below hbr (by omega)
              have hs2 := hs.below hbwr fun _ _ h => h
              by_cases he : spErr m0 m1 none x.spoils = 0
              · go_wp2_with fail
                refine (spoils_is _ _ m0 m1 x.spoils _ _ _ 0 he hs2).mono ?_
                rintro e w2 ⟨rfl, hb2⟩
                have hS := spErr_class m0 m1 x.spoils none he
                have hz2 := hb2.size
                have hbr2 : Below (w.heap.size + 1 + 1) W2 w2 := hbr.trans (hb2.mono (by omega))
                have hbs2 : Below w.heap.size w w2 := hbw2.trans (hbr2.mono (by omega))
                clear g0 g1 g2 g3 i0 i1 i2 hb2
                obtain ⟨_, g0, g1, g2, g3⟩ := HC.below hbr2 (by omega)
                obtain ⟨_, i0, i1, i2⟩ := HI.below hbr2 (by omega)
                have hv3 := hv.below hbs2 fun _ _ h => h
                have ho3 := ho.below hbs2 fun _ _ h => h
                have hs3 := hs.below hbs2 fun _ _ h => h
                cases hcl : clashB values x
                · go_wp2_with fail
                  refine (clash_is values _ _ _ _ _ x _ _ _ _ _ false hcl hv3 ho3 hs3 hN hV).mono ?_
                  rintro e w3 ⟨rfl, hb3⟩
                  have hz3 := hb3.size
                  have hbr3 : Below (w.heap.size + 1 + 1) W2 w3 := hbr2.trans (hb3.mono (by omega))
                  have hbs3 : Below w.heap.size w w3 := hbw2.trans (hbr3.mono (by omega))
                  clear g0 g1 g2 g3 i0 i1 i2 hb3
                  obtain ⟨_, g0, g1, g2, g3⟩ := HC.below hbr3 (by omega)
                  obtain ⟨_, i0, i1, i2⟩ := HI.below hbr3 (by omega)
                  have hv4 := hv.below hbs3 fun _ _ h => h
                  have ho4 := ho.below hbs3 fun _ _ h => h
                  have hs4 := hs.below hbs3 fun _ _ h => h
                  cases hfu : fullB values m0 m1 x
                  · have H : Hid (0 = instrErr values m0 m1 x) := by show _ = _; simp [instrErr, hop, HE1.out, HE2.out, he, hcl, hfu]
                    go_wp2_with fail
                    refine (full_is values _ _ _ _ _ x _ _ _ _ _ false hfu hv4 ho4 hs4 hOV hcls hS).mono ?_
                    rintro e w4 ⟨rfl, hb4⟩
                    go_wp2
                    go_ret
                    exact ⟨ret_int H.out, hbs3.trans (hb4.mono hbs3.size)⟩
                  · have H : Hid (8 = instrErr values m0 m1 x) := by show _ = _; simp [instrErr, hop, HE1.out, HE2.out, he, hcl, hfu]
                    go_wp2_with fail
                    refine (full_is values _ _ _ _ _ x _ _ _ _ _ true hfu hv4 ho4 hs4 hOV hcls hS).mono ?_
                    rintro e w4 ⟨rfl, hb4⟩
                    go_wp2
                    go_ret
                    exact ⟨ret_int H.out, hbs3.trans (hb4.mono hbs3.size)⟩
                · have H : Hid (12 = instrErr values m0 m1 x) := by show _ = _; simp [instrErr, hop, HE1.out, HE2.out, he, hcl]
                  go_wp2_with fail
                  refine (clash_is values _ _ _ _ _ x _ _ _ _ _ true hcl hv3 ho3 hs3 hN hV).mono ?_
                  rintro e w3 ⟨rfl, hb3⟩
                  go_wp2
                  go_ret
                  exact ⟨ret_int H.out, hbs2.trans (hb3.mono hbs2.size)⟩
              · have hE : instrErr values m0 m1 x = spErr m0 m1 none x.spoils := by simp [instrErr, hop, HE1.out, HE2.out, he]
                have ⟨er, her⟩ : ∃ er, spErr m0 m1 none x.spoils = er := ⟨_, rfl⟩
                rw [her] at hE he
                have H : Hid (er = instrErr values m0 m1 x) := hE.symm
                have hne : (er != 0) = true := by simpa using he
                clear hE he
                go_wp2_with fail
                refine (spoils_is _ _ m0 m1 x.spoils _ _ _ er her hs2).mono ?_
                rintro e w2 ⟨rfl, hb2⟩
                go_wp2
                go_ret
                exact ⟨ret_int H.out, hbwr.trans (hb2.mono hbwr.size)⟩
end Go.Proofs.Ytglfpnnfcpnmoaa
