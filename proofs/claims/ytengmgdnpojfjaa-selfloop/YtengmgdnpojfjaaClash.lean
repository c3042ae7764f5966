/-
  The contract of 'checker.clash': whether two operands, or an operand and a spoil, ask for one register (P1.6).
-/
import Derived.Test.YtengmgdnpojfjaaPair
namespace Go.Proofs.Ytengmgdnpojfjaa
open Go.RowKit
set_option linter.unusedVariables false

def opAt (l : List Opr) (i : Nat) : Opr := l.getD i ⟨0, 0, false, 0, 0⟩
def pairAt (values : List Int) (x : Ins) (i j : Nat) : Bool := pairB values x.operands (opAt x.operands j) (opAt x.operands i) j i
def spoilAt (values : List Int) (x : Ins) (i : Nat) : Bool := match fixedOf values x.operands (opAt x.operands i) with
  | some p => ((opAt x.operands i).late || decide ((opAt x.operands i).kind = 2)) && hasRg x.spoils p.1 p.2
  | none => false
def clashAt (values : List Int) (x : Ins) (i : Nat) : Bool := spoilAt values x i || (List.range i).any (pairAt values x i)
def clashB (values : List Int) (x : Ins) : Bool := (List.range x.operands.length).any (clashAt values x)

theorem opAt_eq (l : List Opr) (i : Nat) (h : i < l.length) : opAt l i = l[i] := by simp [opAt, List.getD, List.getElem?_eq_getElem h]
theorem pairAt_eq (values : List Int) (x : Ins) (i j : Nat) (hj : j < x.operands.length) (hi : i < x.operands.length) : pairAt values x i j = pairB values x.operands x.operands[j] x.operands[i] j i := by
  rw [pairAt, opAt_eq _ _ hj, opAt_eq _ _ hi]
theorem spoilAt_eq (values : List Int) (x : Ins) (i : Nat) (hi : i < x.operands.length) : spoilAt values x i = match fixedOf values x.operands x.operands[i] with
  | some p => (x.operands[i].late || decide (x.operands[i].kind = 2)) && hasRg x.spoils p.1 p.2
  | none => false := by
  rw [spoilAt, opAt_eq _ _ hi]
theorem range_snoc (p : Nat → Bool) (k : Nat) (h : (List.range k).any p = false) (h2 : p k = false) : (List.range (k + 1)).any p = false := by
  rw [List.range_succ, List.any_append, h]
  simp [h2]
theorem clashAt_no (values : List Int) (x : Ins) (k q : Nat) (e : q = k) (h : (List.range q).any (pairAt values x k) = false) (hs : spoilAt values x k = false) : clashAt values x k = false := by
  subst e
  rw [clashAt, hs, h]
  rfl
theorem clash_at (values : List Int) (x : Ins) (k : Nat) (hk : k < x.operands.length) (h : clashAt values x k = true) : clashB values x = true :=
  List.any_eq_true.2 ⟨k, List.mem_range.2 hk, h⟩

theorem pair_is (values : List Int) (av : Option Addr) (cv : Nat) (vb : Value) (m0 m1 : Int) (all : List Opr) (aa : Option Addr) (ca : Nat) (i j : Nat) (hi : i < all.length) (hj : j < all.length) (w : World) (r : Bool) (hr : pairB values all all[i] all[j] i j = r) (hv : SlOf w 1 RInt (.slice av values.length cv) values)
    (ha : SlOf w 5 ROpr (.slice aa all.length ca) all) (hN : ∀ o ∈ all, o.limit = 5 → 0 ≤ o.n ∧ o.n < (all.length : Int)) (hV : ∀ o ∈ all, isValueB values.length (named all o).value = true) :
    Calls Try.prog 83 #[.agg #[.slice av values.length cv, vb, .int .i64 m0, .int .i64 m1], .slice aa all.length ca, .int .i64 i, .int .i64 j] w fun e w' => e = .returned (.bool r) ∧ Below w.heap.size w w' := by
  rw [← hr]; exact pair_any values av cv vb m0 m1 all aa ca i j hi hj w hv ha hN hV

set_option maxHeartbeats 8000000 in
theorem clash_any (values : List Int) (av : Option Addr) (cv : Nat) (vb : Value) (m0 m1 : Int) (x : Ins) (ao asp : Option Addr) (co csp : Nat) (w : World) (hv : SlOf w 1 RInt (.slice av values.length cv) values)
    (ho : SlOf w 5 ROpr (.slice ao x.operands.length co) x.operands) (hs : SlOf w 2 RRg (.slice asp x.spoils.length csp) x.spoils)
    (hN : ∀ o ∈ x.operands, o.limit = 5 → 0 ≤ o.n ∧ o.n < (x.operands.length : Int)) (hV : ∀ o ∈ x.operands, isValueB values.length (named x.operands o).value = true) :
    Calls Try.prog 77 #[.agg #[.slice av values.length cv, vb, .int .i64 m0, .int .i64 m1], .agg #[.int .i64 x.op, .slice ao x.operands.length co, .slice asp x.spoils.length csp]] w fun e w' => e = .returned (.bool (clashB values x)) ∧ Below w.heap.size w w' := by
  obtain ⟨_, _, _, lv⟩ := hv.out
  obtain ⟨_, _, _, lo⟩ := ho.out
  obtain ⟨_, _, _, ls⟩ := hs.out
  unfold longest at lv lo ls
  obtain ⟨W2, hW2⟩ : ∃ W2, W2 = (w.alloc (.cells #[.slice av values.length cv, vb, .int .i64 m0, .int .i64 m1] 84)).alloc (.cells #[.int .i64 x.op, .slice ao x.operands.length co, .slice asp x.spoils.length csp] 40) := ⟨_, rfl⟩
  have hbw2 : Below w.heap.size w W2 := by rw [hW2]; exact ((Below.refl _ _).alloc (Nat.le_refl _) _).alloc (by simp) _
  have HC : ChkAt W2 w.heap.size (.slice av values.length cv) vb m0 m1 := by rw [hW2]; exact ⟨by simp; omega, by simp, by simp, by simp, by simp⟩
  have HI : InsAt W2 (w.heap.size + 1) x.op (.slice ao x.operands.length co) (.slice asp x.spoils.length csp) := by rw [hW2]; exact ⟨by simp, by simp, by simp, by simp⟩
  have HW : Hid (W2 = (w.alloc (.cells #[.slice av values.length cv, vb, .int .i64 m0, .int .i64 m1] 84)).alloc (.cells #[.int .i64 x.op, .slice ao x.operands.length co, .slice asp x.spoils.length csp] 40)) := hW2
  clear hW2
  go_enter Try.func77, Try.ntmps77
  go_wp2
  go_loopw [13] (fun i wr => ∃ k : Nat, k ≤ x.operands.length ∧ i = .int .i64 k ∧ Below (w.heap.size + 1 + 1) W2 wr ∧ w.heap.size + 1 < wr.heap.size ∧ Hid ((List.range k).any (clashAt values x) = false)) (fun i _ => x.operands.length - (intOf i).toNat)
  case atStart => exact ⟨0, Nat.zero_le _, rfl, by rw [HW.out]; exact Below.refl _ _, by simp, rfl⟩
  case round =>
    obtain ⟨k, hk, rfl, hbr, hz, HK⟩ := hrel
    have hbwr : Below w.heap.size w wr := hbw2.trans (hbr.mono (by omega))
    by_cases hlt : k < x.operands.length
    · obtain ⟨_, g0, g1, g2, g3⟩ := HC.below hbr (by omega)
      obtain ⟨_, i0, i1, i2⟩ := HI.below hbr (by omega)
      obtain ⟨b5, off5, rfl, hb5, c0, c1, c2, c3, c4⟩ := opr_cells (ho.below hbwr fun _ _ h => h) k hlt
      have hNk := hN _ (List.getElem_mem hlt)
      have hVk := hV _ (List.getElem_mem hlt)
      have LC := old_cell w.heap.size
      have LI0 := old_cell (w.heap.size + 1)
      have lc : w.heap.size < wr.heap.size := by omega
      have hba0 : Below wr.heap.size wr (wr.alloc (.cells #[.int .i64 x.operands[k].kind, .int .i64 x.operands[k].value, .bool x.operands[k].late, .int .i64 x.operands[k].limit, .int .i64 x.operands[k].n] 43)) := (Below.refl _ _).alloc (Nat.le_refl _) _
      have hv2 := (hv.below hbwr fun _ _ h => h).below hba0 fun _ _ h => h
      have ho2 := (ho.below hbwr fun _ _ h => h).below hba0 fun _ _ h => h
      cases hf : fixedOf values x.operands x.operands[k] with
      | none =>
        go_wp2_with fail
        refine (fixed_is values _ _ _ _ _ x.operands[k] x.operands _ _ _ none hf rfl hv2 ho2 hNk hVk).mono ?_
        rintro e w2 ⟨rfl, hb2⟩
        have hz2 := hb2.size
        simp at hz2
        have hbr2 : Below (w.heap.size + 1 + 1) W2 w2 := (hbr.alloc (by omega) _).trans (hb2.mono (by simp; omega))
        have HO : OprAt w2 wr.heap.size x.operands[k] := by
          refine OprAt.below (B := wr.heap.size + 1) ?_ (hb2.mono (by simp)) (by omega)
          exact ⟨by simp, by simp, by simp, by simp, by simp, by simp⟩
        clear hb2
        obtain ⟨_, o0, o1, o2, o3, o4⟩ := id HO
        obtain ⟨_, i0, i1, i2⟩ := HI.below hbr2 (by omega)
        have LO := old_cell wr.heap.size
        have LI := old_cell (w.heap.size + 1)
        have lo2 : wr.heap.size < w2.heap.size := by omega
        have li2 : w.heap.size + 1 < w2.heap.size := by omega
        have HS : Hid (spoilAt values x k = false) := by show _ = _; rw [spoilAt_eq values x k hlt]; simp [hf]
        have hbr3 := hbr2.alloc (by omega) (.cells #[.int .i64 0, .int .i64 0] 100)
        have hz3 : w.heap.size + 1 < (w2.alloc (.cells #[.int .i64 0, .int .i64 0] 100)).heap.size := by simp; omega
        go_wp2
        clear o0 o1 o2 o3 o4 i0 i1 i2 LO LI
        go_loopw [43] (fun j wr => ∃ q : Nat, q ≤ k ∧ j = .int .i64 q ∧ Below (w.heap.size + 1 + 1) W2 wr ∧ w.heap.size + 1 < wr.heap.size ∧ Hid ((List.range q).any (pairAt values x k) = false)) (fun j _ => k - (intOf j).toNat)
        case atStart => exact ⟨0, Nat.zero_le _, rfl, hbr3, hz3, rfl⟩
        case round =>
          clear hbr3 hz3
          obtain ⟨q, hq, rfl, hbr3, hz3, HQ⟩ := hrel
          have hbw3 : Below w.heap.size w wr := hbw2.trans (hbr3.mono (by omega))
          obtain ⟨_, g0, g1, g2, g3⟩ := HC.below hbr3 (by omega)
          obtain ⟨_, i0, i1, i2⟩ := HI.below hbr3 (by omega)
          by_cases hql : q < k
          · have hqx : q < x.operands.length := by omega
            have hv3 := hv.below hbw3 fun _ _ h => h
            have ho3 := ho.below hbw3 fun _ _ h => h
            cases hp : pairB values x.operands x.operands[q] x.operands[k] q k
            · have H : Hid ((List.range (q + 1)).any (pairAt values x k) = false) := range_snoc _ _ HQ.out (by rw [pairAt_eq values x k q hqx hlt]; exact hp)
              clear HQ
              go_wp2_with (go_at_call 83; refine (pair_is values _ _ _ _ _ x.operands _ _ q k hqx hlt _ false hp hv3 ho3 hN hV).mono ?_; rintro e w4 ⟨rfl, hb4⟩)
              have hz4 := hb4.size
              go_roundw
              case rel => exact ⟨q + 1, by omega, by go_num, hbr3.trans (hb4.mono (by omega)), by omega, H⟩
              case measure => simp [intOf]; omega
            · have H : Hid (true = clashB values x) := by
                show _ = _
                refine (clash_at values x k hlt ?_).symm
                refine Bool.or_eq_true_iff.2 (Or.inr ?_)
                refine List.any_eq_true.2 ⟨q, List.mem_range.2 hql, ?_⟩
                rw [pairAt_eq values x k q hqx hlt]; exact hp
              clear HQ
              go_wp2_with (go_at_call 83; refine (pair_is values _ _ _ _ _ x.operands _ _ q k hqx hlt _ true hp hv3 ho3 hN hV).mono ?_; rintro e w4 ⟨rfl, hb4⟩)
              go_ret
              exact ⟨ret_bool H.out, hbw3.trans (hb4.mono hbw3.size)⟩
          · have H : Hid ((List.range (k + 1)).any (clashAt values x) = false) := by
              refine range_snoc _ _ HK.out ?_
              exact clashAt_no values x k q (by omega) HQ.out HS.out
            clear HQ HS
            go_wp2
            go_roundw
            case rel => exact ⟨k + 1, by omega, by go_num, hbr3, hz3, H⟩
            case measure => simp [intOf]; omega
      | some p =>
        obtain ⟨rc, rn⟩ := p
        go_wp2_with fail
        refine (fixed_is values _ _ _ _ _ x.operands[k] x.operands _ _ _ (some (rc, rn)) hf rfl hv2 ho2 hNk hVk).mono ?_
        rintro e w2 ⟨rfl, hb2⟩
        have hz2 := hb2.size
        simp at hz2
        have hbr2 : Below (w.heap.size + 1 + 1) W2 w2 := (hbr.alloc (by omega) _).trans (hb2.mono (by simp; omega))
        have HO : OprAt w2 wr.heap.size x.operands[k] := by
          refine OprAt.below (B := wr.heap.size + 1) ?_ (hb2.mono (by simp)) (by omega)
          exact ⟨by simp, by simp, by simp, by simp, by simp, by simp⟩
        clear hb2
        obtain ⟨_, o0, o1, o2, o3, o4⟩ := id HO
        obtain ⟨_, i0, i1, i2⟩ := HI.below hbr2 (by omega)
        have LO := old_cell wr.heap.size
        have LI := old_cell (w.heap.size + 1)
        have lo2 : wr.heap.size < w2.heap.size := by omega
        have li2 : w.heap.size + 1 < w2.heap.size := by omega
        cases hlate : x.operands[k].late
        · rw [hlate] at o2
          by_cases hk2 : x.operands[k].kind = 2
          · have qk : (x.operands[k].kind == 2) = true := by simp [hk2]
            cases hh : hasRg x.spoils rc rn
            · have HS : Hid (spoilAt values x k = false) := by show _ = _; rw [spoilAt_eq values x k hlt]; simp [hf, hh]
              have hbs2 : Below w.heap.size w w2 := hbw2.trans (hbr2.mono (by omega))
              have hba : Below w2.heap.size w2 (w2.alloc (.cells #[.int .i64 rc, .int .i64 rn] 100)) := (Below.refl _ _).alloc (Nat.le_refl _) _
              have hs2 := (hs.below hbs2 fun _ _ h => h).below hba fun _ _ h => h
              go_wp2_with fail
              refine (contains_is x.spoils _ _ rc rn false hh _ hs2).mono ?_
              rintro e w4 ⟨rfl, hb4⟩
              have hz4 := hb4.size
              simp at hz4
              have hbr3 : Below (w.heap.size + 1 + 1) W2 w4 := (hbr2.alloc (by omega) _).trans (hb4.mono (by simp; omega))
              have hz3 : w.heap.size + 1 < w4.heap.size := by omega
              clear hb4
              go_wp2
              clear o0 o1 o2 o3 o4 i0 i1 i2 LO LI
              go_loopw [43] (fun j wr => ∃ q : Nat, q ≤ k ∧ j = .int .i64 q ∧ Below (w.heap.size + 1 + 1) W2 wr ∧ w.heap.size + 1 < wr.heap.size ∧ Hid ((List.range q).any (pairAt values x k) = false)) (fun j _ => k - (intOf j).toNat)
              case atStart => exact ⟨0, Nat.zero_le _, rfl, hbr3, hz3, rfl⟩
              case round =>
                clear hbr3 hz3
                obtain ⟨q, hq, rfl, hbr3, hz3, HQ⟩ := hrel
                have hbw3 : Below w.heap.size w wr := hbw2.trans (hbr3.mono (by omega))
                obtain ⟨_, g0, g1, g2, g3⟩ := HC.below hbr3 (by omega)
                obtain ⟨_, i0, i1, i2⟩ := HI.below hbr3 (by omega)
                by_cases hql : q < k
                · have hqx : q < x.operands.length := by omega
                  have hv3 := hv.below hbw3 fun _ _ h => h
                  have ho3 := ho.below hbw3 fun _ _ h => h
                  cases hp : pairB values x.operands x.operands[q] x.operands[k] q k
                  · have H : Hid ((List.range (q + 1)).any (pairAt values x k) = false) := range_snoc _ _ HQ.out (by rw [pairAt_eq values x k q hqx hlt]; exact hp)
                    clear HQ
                    go_wp2_with (go_at_call 83; refine (pair_is values _ _ _ _ _ x.operands _ _ q k hqx hlt _ false hp hv3 ho3 hN hV).mono ?_; rintro e w4 ⟨rfl, hb4⟩)
                    have hz4 := hb4.size
                    go_roundw
                    case rel => exact ⟨q + 1, by omega, by go_num, hbr3.trans (hb4.mono (by omega)), by omega, H⟩
                    case measure => simp [intOf]; omega
                  · have H : Hid (true = clashB values x) := by
                      show _ = _
                      refine (clash_at values x k hlt ?_).symm
                      refine Bool.or_eq_true_iff.2 (Or.inr ?_)
                      refine List.any_eq_true.2 ⟨q, List.mem_range.2 hql, ?_⟩
                      rw [pairAt_eq values x k q hqx hlt]; exact hp
                    clear HQ
                    go_wp2_with (go_at_call 83; refine (pair_is values _ _ _ _ _ x.operands _ _ q k hqx hlt _ true hp hv3 ho3 hN hV).mono ?_; rintro e w4 ⟨rfl, hb4⟩)
                    go_ret
                    exact ⟨ret_bool H.out, hbw3.trans (hb4.mono hbw3.size)⟩
                · have H : Hid ((List.range (k + 1)).any (clashAt values x) = false) := by
                    refine range_snoc _ _ HK.out ?_
                    exact clashAt_no values x k q (by omega) HQ.out HS.out
                  clear HQ HS
                  go_wp2
                  go_roundw
                  case rel => exact ⟨k + 1, by omega, by go_num, hbr3, hz3, H⟩
                  case measure => simp [intOf]; omega
            · have H : Hid (true = clashB values x) := by
                show _ = _
                refine (clash_at values x k hlt ?_).symm
                refine Bool.or_eq_true_iff.2 (Or.inl ?_)
                rw [spoilAt_eq values x k hlt]
                simp [hf, hh, hk2]
              have hbs2 : Below w.heap.size w w2 := hbw2.trans (hbr2.mono (by omega))
              have hba : Below w2.heap.size w2 (w2.alloc (.cells #[.int .i64 rc, .int .i64 rn] 100)) := (Below.refl _ _).alloc (Nat.le_refl _) _
              have hs2 := (hs.below hbs2 fun _ _ h => h).below hba fun _ _ h => h
              go_wp2_with fail
              refine (contains_is x.spoils _ _ rc rn true hh _ hs2).mono ?_
              rintro e w4 ⟨rfl, hb4⟩
              go_wp2
              go_ret
              exact ⟨ret_bool H.out, hbs2.trans ((Below.trans (hba.mono (Nat.le_refl _)) (hb4.mono (by simp))).mono hbs2.size)⟩
          · have qk : (x.operands[k].kind == 2) = false := by simpa using hk2
            have HS : Hid (spoilAt values x k = false) := by show _ = _; rw [spoilAt_eq values x k hlt]; simp [hf, hlate, hk2]
            have hbr3 := hbr2.alloc (by omega) (.cells #[.int .i64 rc, .int .i64 rn] 100)
            have hz3 : w.heap.size + 1 < (w2.alloc (.cells #[.int .i64 rc, .int .i64 rn] 100)).heap.size := by simp; omega
            go_wp2
            clear o0 o1 o2 o3 o4 i0 i1 i2 LO LI
            go_loopw [43] (fun j wr => ∃ q : Nat, q ≤ k ∧ j = .int .i64 q ∧ Below (w.heap.size + 1 + 1) W2 wr ∧ w.heap.size + 1 < wr.heap.size ∧ Hid ((List.range q).any (pairAt values x k) = false)) (fun j _ => k - (intOf j).toNat)
            case atStart => exact ⟨0, Nat.zero_le _, rfl, hbr3, hz3, rfl⟩
            case round =>
              clear hbr3 hz3
              obtain ⟨q, hq, rfl, hbr3, hz3, HQ⟩ := hrel
              have hbw3 : Below w.heap.size w wr := hbw2.trans (hbr3.mono (by omega))
              obtain ⟨_, g0, g1, g2, g3⟩ := HC.below hbr3 (by omega)
              obtain ⟨_, i0, i1, i2⟩ := HI.below hbr3 (by omega)
              by_cases hql : q < k
              · have hqx : q < x.operands.length := by omega
                have hv3 := hv.below hbw3 fun _ _ h => h
                have ho3 := ho.below hbw3 fun _ _ h => h
                cases hp : pairB values x.operands x.operands[q] x.operands[k] q k
                · have H : Hid ((List.range (q + 1)).any (pairAt values x k) = false) := range_snoc _ _ HQ.out (by rw [pairAt_eq values x k q hqx hlt]; exact hp)
                  clear HQ
                  go_wp2_with (go_at_call 83; refine (pair_is values _ _ _ _ _ x.operands _ _ q k hqx hlt _ false hp hv3 ho3 hN hV).mono ?_; rintro e w4 ⟨rfl, hb4⟩)
                  have hz4 := hb4.size
                  go_roundw
                  case rel => exact ⟨q + 1, by omega, by go_num, hbr3.trans (hb4.mono (by omega)), by omega, H⟩
                  case measure => simp [intOf]; omega
                · have H : Hid (true = clashB values x) := by
                    show _ = _
                    refine (clash_at values x k hlt ?_).symm
                    refine Bool.or_eq_true_iff.2 (Or.inr ?_)
                    refine List.any_eq_true.2 ⟨q, List.mem_range.2 hql, ?_⟩
                    rw [pairAt_eq values x k q hqx hlt]; exact hp
                  clear HQ
                  go_wp2_with (go_at_call 83; refine (pair_is values _ _ _ _ _ x.operands _ _ q k hqx hlt _ true hp hv3 ho3 hN hV).mono ?_; rintro e w4 ⟨rfl, hb4⟩)
                  go_ret
                  exact ⟨ret_bool H.out, hbw3.trans (hb4.mono hbw3.size)⟩
              · have H : Hid ((List.range (k + 1)).any (clashAt values x) = false) := by
                  refine range_snoc _ _ HK.out ?_
                  exact clashAt_no values x k q (by omega) HQ.out HS.out
                clear HQ HS
                go_wp2
                go_roundw
                case rel => exact ⟨k + 1, by omega, by go_num, hbr3, hz3, H⟩
                case measure => simp [intOf]; omega
        · rw [hlate] at o2
          cases hh : hasRg x.spoils rc rn
          · have HS : Hid (spoilAt values x k = false) := by show _ = _; rw [spoilAt_eq values x k hlt]; simp [hf, hh]
            have hbs2 : Below w.heap.size w w2 := hbw2.trans (hbr2.mono (by omega))
            have hba : Below w2.heap.size w2 (w2.alloc (.cells #[.int .i64 rc, .int .i64 rn] 100)) := (Below.refl _ _).alloc (Nat.le_refl _) _
            have hs2 := (hs.below hbs2 fun _ _ h => h).below hba fun _ _ h => h
            go_wp2_with fail
            refine (contains_is x.spoils _ _ rc rn false hh _ hs2).mono ?_
            rintro e w4 ⟨rfl, hb4⟩
            have hz4 := hb4.size
            simp at hz4
            have hbr3 : Below (w.heap.size + 1 + 1) W2 w4 := (hbr2.alloc (by omega) _).trans (hb4.mono (by simp; omega))
            have hz3 : w.heap.size + 1 < w4.heap.size := by omega
            clear hb4
            go_wp2
            clear o0 o1 o2 o3 o4 i0 i1 i2 LO LI
            go_loopw [43] (fun j wr => ∃ q : Nat, q ≤ k ∧ j = .int .i64 q ∧ Below (w.heap.size + 1 + 1) W2 wr ∧ w.heap.size + 1 < wr.heap.size ∧ Hid ((List.range q).any (pairAt values x k) = false)) (fun j _ => k - (intOf j).toNat)
            case atStart => exact ⟨0, Nat.zero_le _, rfl, hbr3, hz3, rfl⟩
            case round =>
              clear hbr3 hz3
              obtain ⟨q, hq, rfl, hbr3, hz3, HQ⟩ := hrel
              have hbw3 : Below w.heap.size w wr := hbw2.trans (hbr3.mono (by omega))
              obtain ⟨_, g0, g1, g2, g3⟩ := HC.below hbr3 (by omega)
              obtain ⟨_, i0, i1, i2⟩ := HI.below hbr3 (by omega)
              by_cases hql : q < k
              · have hqx : q < x.operands.length := by omega
                have hv3 := hv.below hbw3 fun _ _ h => h
                have ho3 := ho.below hbw3 fun _ _ h => h
                cases hp : pairB values x.operands x.operands[q] x.operands[k] q k
                · have H : Hid ((List.range (q + 1)).any (pairAt values x k) = false) := range_snoc _ _ HQ.out (by rw [pairAt_eq values x k q hqx hlt]; exact hp)
                  clear HQ
                  go_wp2_with (go_at_call 83; refine (pair_is values _ _ _ _ _ x.operands _ _ q k hqx hlt _ false hp hv3 ho3 hN hV).mono ?_; rintro e w4 ⟨rfl, hb4⟩)
                  have hz4 := hb4.size
                  go_roundw
                  case rel => exact ⟨q + 1, by omega, by go_num, hbr3.trans (hb4.mono (by omega)), by omega, H⟩
                  case measure => simp [intOf]; omega
                · have H : Hid (true = clashB values x) := by
                    show _ = _
                    refine (clash_at values x k hlt ?_).symm
                    refine Bool.or_eq_true_iff.2 (Or.inr ?_)
                    refine List.any_eq_true.2 ⟨q, List.mem_range.2 hql, ?_⟩
                    rw [pairAt_eq values x k q hqx hlt]; exact hp
                  clear HQ
                  go_wp2_with (go_at_call 83; refine (pair_is values _ _ _ _ _ x.operands _ _ q k hqx hlt _ true hp hv3 ho3 hN hV).mono ?_; rintro e w4 ⟨rfl, hb4⟩)
                  go_ret
                  exact ⟨ret_bool H.out, hbw3.trans (hb4.mono hbw3.size)⟩
              · have H : Hid ((List.range (k + 1)).any (clashAt values x) = false) := by
                  refine range_snoc _ _ HK.out ?_
                  exact clashAt_no values x k q (by omega) HQ.out HS.out
                clear HQ HS
                go_wp2
                go_roundw
                case rel => exact ⟨k + 1, by omega, by go_num, hbr3, hz3, H⟩
                case measure => simp [intOf]; omega
          · have H : Hid (true = clashB values x) := by
              show _ = _
              refine (clash_at values x k hlt ?_).symm
              refine Bool.or_eq_true_iff.2 (Or.inl ?_)
              rw [spoilAt_eq values x k hlt]
              simp [hf, hh, hlate]
            have hbs2 : Below w.heap.size w w2 := hbw2.trans (hbr2.mono (by omega))
            have hba : Below w2.heap.size w2 (w2.alloc (.cells #[.int .i64 rc, .int .i64 rn] 100)) := (Below.refl _ _).alloc (Nat.le_refl _) _
            have hs2 := (hs.below hbs2 fun _ _ h => h).below hba fun _ _ h => h
            go_wp2_with fail
            refine (contains_is x.spoils _ _ rc rn true hh _ hs2).mono ?_
            rintro e w4 ⟨rfl, hb4⟩
            go_wp2
            go_ret
            exact ⟨ret_bool H.out, hbs2.trans ((Below.trans (hba.mono (Nat.le_refl _)) (hb4.mono (by simp))).mono hbs2.size)⟩
    · have H : Hid (false = clashB values x) := by
        show _ = _
        have e : k = x.operands.length := by omega
        rw [clashB, ← e, HK.out]
      clear HK
      go_wp2
      go_ret
      exact ⟨ret_bool H.out, hbwr⟩
end Go.Proofs.Ytengmgdnpojfjaa
