/-
  The contract of 'checker.instr': which error an instruction by itself has (P1.4 to P1.7), where the values' classes are 0 or 1.
-/
import Derived.Test.YtengmgdnpojfjaaClash
import Derived.Test.YtengmgdnpojfjaaFull
namespace Go.Proofs.Ytengmgdnpojfjaa
open Go.RowKit
set_option linter.unusedVariables false

def firstE {α : Type} (f : α → Int) : List α → Int
  | [] => 0
  | a :: r => if f a = 0 then firstE f r else f a
def reE (values : List Int) (x : Ins) (o : Opr) : Int := if o.limit = 5 then reuseErr values o x.operands else 0
def instrErr (values : List Int) (m0 m1 : Int) (x : Ins) : Int :=
  if x.op < 0 ∨ 255 < x.op then 2
  else if firstE (oprErr values m0 m1) x.operands ≠ 0 then firstE (oprErr values m0 m1) x.operands
  else if firstE (reE values x) x.operands ≠ 0 then firstE (reE values x) x.operands
  else if spErr m0 m1 none x.spoils ≠ 0 then spErr m0 m1 none x.spoils
  else if clashB values x = true then 12 else if fullB values m0 m1 x = true then 8 else 0

theorem firstE_drop0 {α : Type} (f : α → Int) (l : List α) (k : Nat) (h : k < l.length) (h0 : f l[k] = 0) : firstE f (l.drop (k + 1)) = firstE f (l.drop k) := by
  rw [List.drop_eq_getElem_cons h, firstE, if_pos h0]
theorem firstE_drop1 {α : Type} (f : α → Int) (l : List α) (k : Nat) (h : k < l.length) (h0 : ¬ f l[k] = 0) : firstE f (l.drop k) = f l[k] := by
  rw [List.drop_eq_getElem_cons h, firstE, if_neg h0]
theorem firstE_zero {α : Type} (f : α → Int) : ∀ (l : List α), firstE f l = 0 → ∀ a ∈ l, f a = 0
  | [], _ => by simp
  | b :: r, h => by
    unfold firstE at h
    by_cases hb : f b = 0
    · rw [if_pos hb] at h
      intro a ha
      rcases List.mem_cons.1 ha with rfl | ha
      · exact hb
      · exact firstE_zero f r h a ha
    · rw [if_neg hb] at h
      exact absurd h hb
theorem instrErr_opr (values : List Int) (m0 m1 : Int) (x : Ins) (e : Int) (hop : ¬ (x.op < 0 ∨ 255 < x.op)) (h : firstE (oprErr values m0 m1) x.operands = e) (he : ¬ e = 0) : instrErr values m0 m1 x = e := by
  unfold instrErr
  rw [if_neg hop, h, if_pos he]
theorem instrErr_re (values : List Int) (m0 m1 : Int) (x : Ins) (e : Int) (hop : ¬ (x.op < 0 ∨ 255 < x.op)) (h1 : firstE (oprErr values m0 m1) x.operands = 0) (h : firstE (reE values x) x.operands = e) (he : ¬ e = 0) : instrErr values m0 m1 x = e := by
  unfold instrErr
  rw [if_neg hop, h1, if_neg (by simp), h, if_pos he]
theorem oprErr_value {values : List Int} {m0 m1 : Int} {o : Opr} (h : oprErr values m0 m1 o = 0) : isValueB values.length o.value = true := by
  unfold oprErr at h
  cases hv : isValueB values.length o.value
  · rw [hv] at h
    split at h
    · simp at h
    · split at h
      · simp at h
      · simp at h
  · rfl
theorem reE_bound {values : List Int} {x : Ins} {o : Opr} (h : reE values x o = 0) (h5 : o.limit = 5) : 0 ≤ o.n ∧ o.n < (x.operands.length : Int) := by
  unfold reE at h
  rw [if_pos h5] at h
  unfold reuseErr at h
  by_cases hb : o.n < 0 ∨ (x.operands.length : Int) ≤ o.n
  · rw [if_pos hb] at h; simp at h
  · omega
theorem named_value {values : List Int} (all : List Opr) (o : Opr) (ho : o ∈ all) (hN : ∀ o ∈ all, o.limit = 5 → 0 ≤ o.n ∧ o.n < (all.length : Int)) (hOV : ∀ o ∈ all, isValueB values.length o.value = true) : isValueB values.length (named all o).value = true := by
  unfold named
  by_cases h5 : o.limit = 5
  · rw [if_pos h5]
    obtain ⟨h0, h1⟩ := hN o ho h5
    have hi : o.n.toNat < all.length := by omega
    simp only [List.getD, List.getElem?_eq_getElem hi, Option.getD_some]
    exact hOV _ (List.getElem_mem hi)
  · rw [if_neg h5]
    exact hOV o ho
theorem spErr_class (m0 m1 : Int) : ∀ (l : List Rg) (p : Option Rg), spErr m0 m1 p l = 0 → ∀ r ∈ l, r.cls = 0 ∨ r.cls = 1
  | [], _, _ => by simp
  | b :: r, p, h => by
    unfold spErr at h
    cases hg : givB m0 m1 b.cls b.n
    · rw [if_pos hg] at h; simp at h
    · rw [if_neg (by simp [hg])] at h
      have hb : b.cls = 0 ∨ b.cls = 1 := by
        have : isClassB b.cls = true := by simp [givB] at hg; exact hg.1
        simp [isClassB] at this
        omega
      have hr : spErr m0 m1 (some b) r = 0 := by
        cases p with
        | none => simpa using h
        | some q =>
          simp only at h
          split at h
          · simp at h
          · exact h
      intro a ha
      rcases List.mem_cons.1 ha with rfl | ha
      · exact hb
      · exact spErr_class m0 m1 r (some b) hr a ha

theorem operand_is (values : List Int) (av : Option Addr) (cv : Nat) (vb : Value) (m0 m1 : Int) (o : Opr) (w : World) (r : Int) (h : oprErr values m0 m1 o = r) (hv : SlOf w 1 RInt (.slice av values.length cv) values) :
    Calls Try.prog 74 #[.agg #[.slice av values.length cv, vb, .int .i64 m0, .int .i64 m1], .agg #[.int .i64 o.kind, .int .i64 o.value, .bool o.late, .int .i64 o.limit, .int .i64 o.n]] w fun e w' => e = .returned (.int .i64 r) ∧ Below w.heap.size w w' := by
  rw [← h]; exact operand_any' values av cv vb m0 m1 o w hv
theorem reuse_is (values : List Int) (av : Option Addr) (cv : Nat) (vb : Value) (m0 m1 : Int) (o : Opr) (all : List Opr) (aa : Option Addr) (ca : Nat) (w : World) (r : Int) (h : reuseErr values o all = r) (hv : SlOf w 1 RInt (.slice av values.length cv) values)
    (ha : SlOf w 5 ROpr (.slice aa all.length ca) all) (hov : isValueB values.length o.value = true) (hall : ∀ u ∈ all, isValueB values.length u.value = true) :
    Calls Try.prog 75 #[.agg #[.slice av values.length cv, vb, .int .i64 m0, .int .i64 m1], .agg #[.int .i64 o.kind, .int .i64 o.value, .bool o.late, .int .i64 o.limit, .int .i64 o.n], .slice aa all.length ca] w fun e w' => e = .returned (.int .i64 r) ∧ Below w.heap.size w w' := by
  rw [← h]; exact reuse_any values av cv vb m0 m1 o all aa ca w hv ha hov hall
theorem spoils_is (vv vb : Value) (m0 m1 : Int) (l : List Rg) (al : Option Addr) (cl : Nat) (w : World) (r : Int) (h : spErr m0 m1 none l = r) (hl : SlOf w 2 RRg (.slice al l.length cl) l) :
    Calls Try.prog 76 #[.agg #[vv, vb, .int .i64 m0, .int .i64 m1], .slice al l.length cl] w fun e w' => e = .returned (.int .i64 r) ∧ Below w.heap.size w w' := by
  rw [← h]; exact spoils_any vv vb m0 m1 l al cl w hl
theorem clash_is (values : List Int) (av : Option Addr) (cv : Nat) (vb : Value) (m0 m1 : Int) (x : Ins) (ao asp : Option Addr) (co csp : Nat) (w : World) (r : Bool) (h : clashB values x = r) (hv : SlOf w 1 RInt (.slice av values.length cv) values)
    (ho : SlOf w 5 ROpr (.slice ao x.operands.length co) x.operands) (hs : SlOf w 2 RRg (.slice asp x.spoils.length csp) x.spoils)
    (hN : ∀ o ∈ x.operands, o.limit = 5 → 0 ≤ o.n ∧ o.n < (x.operands.length : Int)) (hV : ∀ o ∈ x.operands, isValueB values.length (named x.operands o).value = true) :
    Calls Try.prog 77 #[.agg #[.slice av values.length cv, vb, .int .i64 m0, .int .i64 m1], .agg #[.int .i64 x.op, .slice ao x.operands.length co, .slice asp x.spoils.length csp]] w fun e w' => e = .returned (.bool r) ∧ Below w.heap.size w w' := by
  rw [← h]; exact clash_any values av cv vb m0 m1 x ao asp co csp w hv ho hs hN hV
theorem full_is (values : List Int) (av : Option Addr) (cv : Nat) (vb : Value) (m0 m1 : Int) (x : Ins) (ao asp : Option Addr) (co csp : Nat) (w : World) (r : Bool) (h : fullB values m0 m1 x = r) (hv : SlOf w 1 RInt (.slice av values.length cv) values)
    (ho : SlOf w 5 ROpr (.slice ao x.operands.length co) x.operands) (hs : SlOf w 2 RRg (.slice asp x.spoils.length csp) x.spoils)
    (hO : ∀ o ∈ x.operands, isValueB values.length o.value = true) (hcl : ∀ v, isValueB values.length v = true → classAt values v = 0 ∨ classAt values v = 1) (hS : ∀ r ∈ x.spoils, r.cls = 0 ∨ r.cls = 1) :
    Calls Try.prog 78 #[.agg #[.slice av values.length cv, vb, .int .i64 m0, .int .i64 m1], .agg #[.int .i64 x.op, .slice ao x.operands.length co, .slice asp x.spoils.length csp]] w fun e w' => e = .returned (.bool r) ∧ Below w.heap.size w w' := by
  rw [← h]; exact full_any values av cv vb m0 m1 x ao asp co csp w hv ho hs hO hcl hS

set_option maxHeartbeats 8000000 in
theorem instr_any (values : List Int) (av : Option Addr) (cv : Nat) (vb : Value) (m0 m1 : Int) (x : Ins) (ao asp : Option Addr) (co csp : Nat) (w : World) (hv : SlOf w 1 RInt (.slice av values.length cv) values)
    (ho : SlOf w 5 ROpr (.slice ao x.operands.length co) x.operands) (hs : SlOf w 2 RRg (.slice asp x.spoils.length csp) x.spoils)
    (hcls : ∀ v, isValueB values.length v = true → classAt values v = 0 ∨ classAt values v = 1) :
    Calls Try.prog 66 #[.agg #[.slice av values.length cv, vb, .int .i64 m0, .int .i64 m1], .agg #[.int .i64 x.op, .slice ao x.operands.length co, .slice asp x.spoils.length csp]] w fun e w' => e = .returned (.int .i64 (instrErr values m0 m1 x)) ∧ Below w.heap.size w w' := by
  obtain ⟨_, _, _, lv⟩ := hv.out
  obtain ⟨_, _, _, lo⟩ := ho.out
  obtain ⟨_, _, _, ls⟩ := hs.out
  unfold longest at lv lo ls
  obtain ⟨W2, hW2⟩ : ∃ W2, W2 = (w.alloc (.cells #[.slice av values.length cv, vb, .int .i64 m0, .int .i64 m1] 84)).alloc (.cells #[.int .i64 x.op, .slice ao x.operands.length co, .slice asp x.spoils.length csp] 40) := ⟨_, rfl⟩
  have hbw2 : Below w.heap.size w W2 := by rw [hW2]; exact ((Below.refl _ _).alloc (Nat.le_refl _) _).alloc (by simp) _
  have HC : ChkAt W2 w.heap.size (.slice av values.length cv) vb m0 m1 := by rw [hW2]; exact ⟨by simp; omega, by simp, by simp, by simp, by simp⟩
  have HI : InsAt W2 (w.heap.size + 1) x.op (.slice ao x.operands.length co) (.slice asp x.spoils.length csp) := by rw [hW2]; exact ⟨by simp, by simp, by simp, by simp⟩
  have HW : Hid (W2 = (w.alloc (.cells #[.slice av values.length cv, vb, .int .i64 m0, .int .i64 m1] 84)).alloc (.cells #[.int .i64 x.op, .slice ao x.operands.length co, .slice asp x.spoils.length csp] 40)) := hW2
  clear hW2
  by_cases hop0 : x.op < 0
  · have H : Hid (2 = instrErr values m0 m1 x) := by show _ = _; unfold instrErr; rw [if_pos (Or.inl hop0)]
    rw [HW.out] at hbw2
    go_enter Try.func66, Try.ntmps66
    go_wp2
    go_ret
    exact ⟨ret_int H.out, hbw2⟩
  · by_cases hop1 : 255 < x.op
    · have H : Hid (2 = instrErr values m0 m1 x) := by show _ = _; unfold instrErr; rw [if_pos (Or.inr hop1)]
      rw [HW.out] at hbw2
      go_enter Try.func66, Try.ntmps66
      go_wp2
      go_ret
      exact ⟨ret_int H.out, hbw2⟩
    · have hop : ¬ (x.op < 0 ∨ 255 < x.op) := by omega
      go_enter Try.func66, Try.ntmps66
      go_wp2
      go_loopw [23] (fun i wr => ∃ k : Nat, k ≤ x.operands.length ∧ i = .int .i64 k ∧ Below (w.heap.size + 1 + 1) W2 wr ∧ w.heap.size + 1 < wr.heap.size ∧ Hid (firstE (oprErr values m0 m1) (x.operands.drop k) = firstE (oprErr values m0 m1) x.operands)) (fun i _ => x.operands.length - (intOf i).toNat)
      case atStart => exact ⟨0, Nat.zero_le _, rfl, by rw [HW.out]; exact Below.refl _ _, by simp, rfl⟩
      case round =>
        obtain ⟨k, hk, rfl, hbr, hz, HK⟩ := hrel
        have hbwr : Below w.heap.size w wr := hbw2.trans (hbr.mono (by omega))
        by_cases hlt : k < x.operands.length
        · skip
          obtain ⟨_, g0, g1, g2, g3⟩ := HC.below hbr (by omega)
          obtain ⟨_, i0, i1, i2⟩ := HI.below hbr (by omega)
          obtain ⟨b5, off5, rfl, hb5, c0, c1, c2, c3, c4⟩ := opr_cells (ho.below hbwr fun _ _ h => h) k hlt
          have LC := old_cell w.heap.size
          have LI0 := old_cell (w.heap.size + 1)
          have lc : w.heap.size < wr.heap.size := by omega
          have hba0 : Below wr.heap.size wr (wr.alloc (.cells #[.int .i64 x.operands[k].kind, .int .i64 x.operands[k].value, .bool x.operands[k].late, .int .i64 x.operands[k].limit, .int .i64 x.operands[k].n] 43)) := (Below.refl _ _).alloc (Nat.le_refl _) _
          have hv2 := (hv.below hbwr fun _ _ h => h).below hba0 fun _ _ h => h
          have ho2 := (ho.below hbwr fun _ _ h => h).below hba0 fun _ _ h => h
          by_cases he : oprErr values m0 m1 x.operands[k] = 0
          · have H : Hid (firstE (oprErr values m0 m1) (x.operands.drop (k + 1)) = firstE (oprErr values m0 m1) x.operands) := (firstE_drop0 _ _ _ hlt he).trans HK.out
            clear HK
            go_wp2_with (go_at_call 74; refine (operand_is values _ _ _ _ _ x.operands[k] _ 0 he hv2).mono ?_; rintro e w2 ⟨rfl, hb2⟩)
            have hz2 := hb2.size
            simp at hz2
            go_roundw
            case rel => exact ⟨k + 1, by omega, by go_num, (hbr.alloc (by omega) _).trans (hb2.mono (by simp; omega)), by omega, H⟩
            case measure => simp [intOf]; omega
          · have hE : instrErr values m0 m1 x = oprErr values m0 m1 x.operands[k] := instrErr_opr values m0 m1 x _ hop ((HK.out.symm.trans (firstE_drop1 _ _ _ hlt he))) he
            have ⟨er, her⟩ : ∃ er, oprErr values m0 m1 x.operands[k] = er := ⟨_, rfl⟩
            rw [her] at hE he
            have H : Hid (er = instrErr values m0 m1 x) := hE.symm
            have hne : (er != 0) = true := by simpa using he
            clear HK hE he
            go_wp2_with (go_at_call 74; refine (operand_is values _ _ _ _ _ x.operands[k] _ er her hv2).mono ?_; rintro e w2 ⟨rfl, hb2⟩)
            go_ret
            exact ⟨ret_int H.out, (hbwr.alloc (by omega) _).trans (hb2.mono (by simp; omega))⟩
        · have HE1 : Hid (firstE (oprErr values m0 m1) x.operands = 0) := by
            show _ = _
            rw [← HK.out, List.drop_of_length_le (by omega)]
            rfl
          clear HK
          have hE1 := firstE_zero _ _ HE1.out
          have hOV : ∀ o ∈ x.operands, isValueB values.length o.value = true := fun o ho => oprErr_value (hE1 o ho)
          obtain ⟨_, i0, i1, i2⟩ := HI.below hbr (by omega)
          go_wp2
          clear i0 i1 i2
          go_loopw [37] (fun i wr => ∃ k : Nat, k ≤ x.operands.length ∧ i = .int .i64 k ∧ Below (w.heap.size + 1 + 1) W2 wr ∧ w.heap.size + 1 < wr.heap.size ∧ Hid (firstE (reE values x) (x.operands.drop k) = firstE (reE values x) x.operands)) (fun i _ => x.operands.length - (intOf i).toNat)
          case atStart => exact ⟨0, Nat.zero_le _, rfl, hbr, hz, rfl⟩
          case round =>
            clear hz hbwr hbr hlt
            obtain ⟨k, hk2, rfl, hbr, hz, HK⟩ := hrel
            have hbwr : Below w.heap.size w wr := hbw2.trans (hbr.mono (by omega))
            by_cases hlt : k < x.operands.length
            · skip
              obtain ⟨_, g0, g1, g2, g3⟩ := HC.below hbr (by omega)
              obtain ⟨_, i0, i1, i2⟩ := HI.below hbr (by omega)
              obtain ⟨b5, off5, rfl, hb5, c0, c1, c2, c3, c4⟩ := opr_cells (ho.below hbwr fun _ _ h => h) k hlt
              have LC := old_cell w.heap.size
              have LI0 := old_cell (w.heap.size + 1)
              have lc : w.heap.size < wr.heap.size := by omega
              have hba0 : Below wr.heap.size wr (wr.alloc (.cells #[.int .i64 x.operands[k].kind, .int .i64 x.operands[k].value, .bool x.operands[k].late, .int .i64 x.operands[k].limit, .int .i64 x.operands[k].n] 43)) := (Below.refl _ _).alloc (Nat.le_refl _) _
              have hv2 := (hv.below hbwr fun _ _ h => h).below hba0 fun _ _ h => h
              have ho2 := (ho.below hbwr fun _ _ h => h).below hba0 fun _ _ h => h
              have hov := oprErr_value (hE1 _ (List.getElem_mem hlt))
              by_cases h5 : x.operands[k].limit = 5
              · have q5 : (x.operands[k].limit != 5) = false := by simp [h5]
                by_cases he : reuseErr values x.operands[k] x.operands = 0
                · have H : Hid (firstE (reE values x) (x.operands.drop (k + 1)) = firstE (reE values x) x.operands) := (firstE_drop0 _ _ _ hlt (by simp [reE, h5, he])).trans HK.out
                  clear HK h5
                  go_wp2_with (go_at_call 75; refine (reuse_is values _ _ _ _ _ x.operands[k] x.operands _ _ _ 0 he hv2 ho2 hov hOV).mono ?_; rintro e w2 ⟨rfl, hb2⟩)
                  have hz2 := hb2.size
                  simp at hz2
                  go_roundw
                  case rel => exact ⟨k + 1, by omega, by go_num, (hbr.alloc (by omega) _).trans (hb2.mono (by simp; omega)), by omega, H⟩
                  case measure => simp [intOf]; omega
                · have hE : instrErr values m0 m1 x = reuseErr values x.operands[k] x.operands := instrErr_re values m0 m1 x _ hop HE1.out ((HK.out.symm.trans (firstE_drop1 _ _ _ hlt (by simp [reE, h5, he]))).trans (by simp [reE, h5])) he
                  have ⟨er, her⟩ : ∃ er, reuseErr values x.operands[k] x.operands = er := ⟨_, rfl⟩
                  rw [her] at hE he
                  have H : Hid (er = instrErr values m0 m1 x) := hE.symm
                  have hne : (er != 0) = true := by simpa using he
                  clear HK hE he h5
                  go_wp2_with (go_at_call 75; refine (reuse_is values _ _ _ _ _ x.operands[k] x.operands _ _ _ er her hv2 ho2 hov hOV).mono ?_; rintro e w2 ⟨rfl, hb2⟩)
                  go_ret
                  exact ⟨ret_int H.out, (hbwr.alloc (by omega) _).trans (hb2.mono (by simp; omega))⟩
              · have q5 : (x.operands[k].limit != 5) = true := by simpa using h5
                have H : Hid (firstE (reE values x) (x.operands.drop (k + 1)) = firstE (reE values x) x.operands) := (firstE_drop0 _ _ _ hlt (by simp [reE, h5])).trans HK.out
                clear HK h5
                go_wp2
                go_roundw
                case rel => exact ⟨k + 1, by omega, by go_num, hbr.alloc (by omega) _, by simp; omega, H⟩
                case measure => simp [intOf]; omega
            · skip
              have HE2 : Hid (firstE (reE values x) x.operands = 0) := by
                show _ = _
                rw [← HK.out, List.drop_of_length_le (by omega)]
                rfl
              clear HK
              have hE2 := firstE_zero _ _ HE2.out
              have hN : ∀ o ∈ x.operands, o.limit = 5 → 0 ≤ o.n ∧ o.n < (x.operands.length : Int) := fun o ho h5 => reE_bound (hE2 o ho) h5
              have hV : ∀ o ∈ x.operands, isValueB values.length (named x.operands o).value = true := fun o ho => named_value x.operands o ho hN hOV
              clear hE2
              obtain ⟨_, g0, g1, g2, g3⟩ := HC.below hbr (by omega)
              obtain ⟨_, i0, i1, i2⟩ := HI.below hbr (by omega)
              have hs2 := hs.below hbwr fun _ _ h => h
              by_cases he : spErr m0 m1 none x.spoils = 0
              · go_wp2_with fail
                refine (spoils_is _ _ m0 m1 x.spoils _ _ _ 0 he hs2).mono ?_
                rintro e w2 ⟨rfl, hb2⟩
                have hS := spErr_class m0 m1 x.spoils none he
                have hz2 := hb2.size
                have hbr2 : Below (w.heap.size + 1 + 1) W2 w2 := hbr.trans (hb2.mono (by omega))
                have hbs2 : Below w.heap.size w w2 := hbw2.trans (hbr2.mono (by omega))
                clear g0 g1 g2 g3 i0 i1 i2 hb2
                obtain ⟨_, g0, g1, g2, g3⟩ := HC.below hbr2 (by omega)
                obtain ⟨_, i0, i1, i2⟩ := HI.below hbr2 (by omega)
                have hv3 := hv.below hbs2 fun _ _ h => h
                have ho3 := ho.below hbs2 fun _ _ h => h
                have hs3 := hs.below hbs2 fun _ _ h => h
                cases hcl : clashB values x
                · go_wp2_with fail
                  refine (clash_is values _ _ _ _ _ x _ _ _ _ _ false hcl hv3 ho3 hs3 hN hV).mono ?_
                  rintro e w3 ⟨rfl, hb3⟩
                  have hz3 := hb3.size
                  have hbr3 : Below (w.heap.size + 1 + 1) W2 w3 := hbr2.trans (hb3.mono (by omega))
                  have hbs3 : Below w.heap.size w w3 := hbw2.trans (hbr3.mono (by omega))
                  clear g0 g1 g2 g3 i0 i1 i2 hb3
                  obtain ⟨_, g0, g1, g2, g3⟩ := HC.below hbr3 (by omega)
                  obtain ⟨_, i0, i1, i2⟩ := HI.below hbr3 (by omega)
                  have hv4 := hv.below hbs3 fun _ _ h => h
                  have ho4 := ho.below hbs3 fun _ _ h => h
                  have hs4 := hs.below hbs3 fun _ _ h => h
                  cases hfu : fullB values m0 m1 x
                  · have H : Hid (0 = instrErr values m0 m1 x) := by show _ = _; simp [instrErr, hop, HE1.out, HE2.out, he, hcl, hfu]
                    go_wp2_with fail
                    refine (full_is values _ _ _ _ _ x _ _ _ _ _ false hfu hv4 ho4 hs4 hOV hcls hS).mono ?_
                    rintro e w4 ⟨rfl, hb4⟩
                    go_wp2
                    go_ret
                    exact ⟨ret_int H.out, hbs3.trans (hb4.mono hbs3.size)⟩
                  · have H : Hid (8 = instrErr values m0 m1 x) := by show _ = _; simp [instrErr, hop, HE1.out, HE2.out, he, hcl, hfu]
                    go_wp2_with fail
                    refine (full_is values _ _ _ _ _ x _ _ _ _ _ true hfu hv4 ho4 hs4 hOV hcls hS).mono ?_
                    rintro e w4 ⟨rfl, hb4⟩
                    go_wp2
                    go_ret
                    exact ⟨ret_int H.out, hbs3.trans (hb4.mono hbs3.size)⟩
                · have H : Hid (12 = instrErr values m0 m1 x) := by show _ = _; simp [instrErr, hop, HE1.out, HE2.out, he, hcl]
                  go_wp2_with fail
                  refine (clash_is values _ _ _ _ _ x _ _ _ _ _ true hcl hv3 ho3 hs3 hN hV).mono ?_
                  rintro e w3 ⟨rfl, hb3⟩
                  go_wp2
                  go_ret
                  exact ⟨ret_int H.out, hbs2.trans (hb3.mono hbs2.size)⟩
              · have hE : instrErr values m0 m1 x = spErr m0 m1 none x.spoils := by simp [instrErr, hop, HE1.out, HE2.out, he]
                have ⟨er, her⟩ : ∃ er, spErr m0 m1 none x.spoils = er := ⟨_, rfl⟩
                rw [her] at hE he
                have H : Hid (er = instrErr values m0 m1 x) := hE.symm
                have hne : (er != 0) = true := by simpa using he
                clear hE he
                go_wp2_with fail
                refine (spoils_is _ _ m0 m1 x.spoils _ _ _ er her hs2).mono ?_
                rintro e w2 ⟨rfl, hb2⟩
                go_wp2
                go_ret
                exact ⟨ret_int H.out, hbwr.trans (hb2.mono hbwr.size)⟩
end Go.Proofs.Ytengmgdnpojfjaa
