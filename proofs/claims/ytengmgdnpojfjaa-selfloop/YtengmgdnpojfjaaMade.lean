/-
  The contract of the closure that marks what is made (P1.9): which error a value has, and what is marked behind it.
-/
import Derived.Test.YtengmgdnpojfjaaEdge
import Derived.Test.YtengmgdnpojfjaaReuse
import Derived.Deep.OwnRows
namespace Go.Proofs.Ytengmgdnpojfjaa
open Go.RowKit
set_option linter.unusedVariables false

/-- w' is w but for blocks p and q, and new ones. -/
structure But (p q : Nat) (w w' : World) : Prop where
  os : w'.os = w.os
  tape : w'.tape = w.tape
  output : w'.output = w.output
  size : w.heap.size ≤ w'.heap.size
  block : ∀ k, k < w.heap.size → k ≠ p → k ≠ q → w'.heap[k]? = w.heap[k]?
theorem But.refl (p q : Nat) (w : World) : But p q w w := ⟨rfl, rfl, rfl, Nat.le_refl _, fun _ _ _ _ => rfl⟩
theorem But.trans {p q : Nat} {a b c : World} (h : But p q a b) (k : But p q b c) : But p q a c :=
  ⟨k.os.trans h.os, k.tape.trans h.tape, k.output.trans h.output, Nat.le_trans h.size k.size, fun i hi h1 h2 => (k.block i (Nat.lt_of_lt_of_le hi h.size) h1 h2).trans (h.block i hi h1 h2)⟩
theorem But.of_below {p q : Nat} {a b : World} (h : Below a.heap.size a b) : But p q a b := ⟨h.os, h.tape, h.output, h.size, fun k hk _ _ => h.block k hk⟩
theorem But.alloc {p q : Nat} {a b : World} (h : But p q a b) (o : Obj) : But p q a (b.alloc o) := h.trans (But.of_below ((Below.refl _ _).alloc (Nat.le_refl _) o))
theorem But.setCell {p q : Nat} {a b : World} (h : But p q a b) (x : Addr) (hx : x.block = p ∨ x.block = q) (u : Value) : But p q a (b.setCell x u) :=
  h.trans ⟨rfl, rfl, rfl, by simp [World.setCell], fun k hk h1 h2 => Below.heap_setCell _ _ _ _ (by omega)⟩
theorem But.below {p q B : Nat} {a b : World} (h : But p q a b) (hB : B ≤ a.heap.size) (hp : B ≤ p) (hq : B ≤ q) : Below B a b := ⟨h.os, h.tape, h.output, h.size, fun k hk => h.block k (by omega) (by omega) (by omega)⟩
theorem But.cell {p q : Nat} {a b : World} (h : But p q a b) {x : Addr} (hx : x.block < a.heap.size) (h1 : x.block ≠ p) (h2 : x.block ≠ q) : b.cell? x = a.cell? x := World.cell?_of_block (h.block x.block hx h1 h2)

def markE (n : Nat) (made : Nat → Bool) (v : Int) : Int := if isValueB n v = false then 2 else if made v.toNat = true then 7 else 0
def markS (made : Nat → Bool) (v : Int) : Nat → Bool := fun i => if i = v.toNat then true else made i

/-- What the closure looks at: the checker in block B; the row of marks; the slice over it; how many are left. -/
def MarkSt (w : World) (B n : Nat) (av : Option Addr) (cv : Nat) (vb : Value) (m0 m1 : Int) (made : Nat → Bool) (left : Int) : Prop :=
  ChkAt w B (.slice av n cv) vb m0 m1 ∧ w.rowIs (B + 1) 4 n (fun i => .bool (made i)) ∧ w.rowIs (B + 1 + 1) 62 1 (fun _ => .slice (some ⟨B + 1, 0, none⟩) n n) ∧ w.rowIs (B + 1 + 1 + 1) 3 1 (fun _ => .int .i64 left)

theorem MarkSt.below {w w' : World} {B n : Nat} {av : Option Addr} {cv : Nat} {vb : Value} {m0 m1 : Int} {made : Nat → Bool} {left : Int} (h : MarkSt w B n av cv vb m0 m1 made left) (hb : Below w.heap.size w w') : MarkSt w' B n av cv vb m0 m1 made left := by
  obtain ⟨h1, h2, h3, h4⟩ := h
  exact ⟨h1.below hb h1.1, h2.of_block (hb.block _ h2.lt), h3.of_block (hb.block _ h3.lt), h4.of_block (hb.block _ h4.lt)⟩

set_option maxHeartbeats 1000000 in
theorem mark_any (B n : Nat) (av : Option Addr) (cv : Nat) (vb : Value) (m0 m1 : Int) (made : Nat → Bool) (left v : Int) (w : World) (st : MarkSt w B n av cv vb m0 m1 made left) (hl : -1000000000 ≤ left) (hl' : left ≤ 1000000000) (hn : n ≤ 140737488355328) :
    Calls Try.prog 68 #[.int .i64 v, .pointer (some ⟨B, 0, none⟩), .pointer (some ⟨B + 1 + 1, 0, none⟩), .pointer (some ⟨B + 1 + 1 + 1, 0, none⟩)] w fun e w' => e = .returned (.int .i64 (markE n made v)) ∧ But (B + 1) (B + 1 + 1 + 1) w w' ∧ (markE n made v = 0 → MarkSt w' B n av cv vb m0 m1 (markS made v) (left - 1)) := by
  have st0 := st
  obtain ⟨⟨lC, g0, g1, g2, g3⟩, r1, r2, r3⟩ := st
  have k2 := r2.cell (i := 0) (by omega)
  have k3 := r3.cell (i := 0) (by omega)
  have z3 := r3.frozen 0
  have L1 := old_cell (B + 1)
  have L2 := old_cell (B + 1 + 1)
  have L3 := old_cell (B + 1 + 1 + 1)
  have l1 := r1.lt
  have l2 := r2.lt
  have l3 := r3.lt
  have hal : Below w.heap.size w (w.alloc (.cells #[.slice av n cv, vb, .int .i64 m0, .int .i64 m1] 84)) := (Below.refl _ _).alloc (Nat.le_refl _) _
  cases hval : isValueB n v
  · have H : Hid (2 = markE n made v) := by show _ = _; simp [markE, hval]
    have H0 : markE n made v = 0 → False := by rw [← H.out]; omega
    go_enter Try.func68, Try.ntmps68
    go_wp2_with (go_at_call 69; refine (isValue_is _ _ _ _ _ _ _ false hval _).mono ?_; rintro e w' ⟨rfl, rfl⟩)
    go_ret
    exact ⟨ret_int H.out, But.of_below hal, fun h => (H0 h).elim⟩
  · have hv : 0 ≤ v ∧ v < (n : Int) := by simpa [isValueB] using hval
    obtain ⟨v0, v1⟩ := hv
    have k1 := r1.cell (i := v.toNat) (by omega)
    have z1 := r1.frozen v.toNat
    cases hm : made v.toNat
    · have H : Hid (0 = markE n made v) := by show _ = _; simp [markE, hval, hm]
      rw [hm] at k1
      go_enter Try.func68, Try.ntmps68
      go_wp2_with (go_at_call 69; refine (isValue_is _ _ _ _ _ _ _ true hval _).mono ?_; rintro e w' ⟨rfl, rfl⟩)
      go_ret
      have hB := (((But.refl (B + 1) (B + 1 + 1 + 1) w).setCell ⟨B + 1, v.toNat, none⟩ (Or.inl rfl) (.bool true)).setCell ⟨B + 1 + 1 + 1, 0, none⟩ (Or.inr rfl) (.int .i64 (left - 1))).alloc (.cells #[.slice av n cv, vb, .int .i64 m0, .int .i64 m1] 84)
      refine ⟨ret_int H.out, ?_, fun _ => ?_⟩
      · exact hB
      · refine ⟨⟨Nat.lt_of_lt_of_le lC hB.size, (hB.cell lC (by show B ≠ _; omega) (by show B ≠ _; omega)).trans g0, (hB.cell lC (by show B ≠ _; omega) (by show B ≠ _; omega)).trans g1, (hB.cell lC (by show B ≠ _; omega) (by show B ≠ _; omega)).trans g2, (hB.cell lC (by show B ≠ _; omega) (by show B ≠ _; omega)).trans g3⟩, ?_, ?_, ?_⟩
        · refine (((r1.set v.toNat (.bool true)).setOther (by show B + 1 ≠ B + 1 + 1 + 1; omega) _).alloc _).congr fun i hi => ?_
          by_cases h : i = v.toNat <;> simp [markS, h]
        · exact ((r2.setOther (by show B + 1 + 1 ≠ B + 1; omega) _).setOther (by show B + 1 + 1 ≠ B + 1 + 1 + 1; omega) _).alloc _
        · refine (((r3.setOther (by show B + 1 + 1 + 1 ≠ B + 1; omega) _).set 0 _).alloc _).congr fun i hi => ?_
          simp; omega
    · have H : Hid (7 = markE n made v) := by show _ = _; simp [markE, hval, hm]
      have H0 : markE n made v = 0 → False := by rw [← H.out]; omega
      rw [hm] at k1
      go_enter Try.func68, Try.ntmps68
      go_wp2_with (go_at_call 69; refine (isValue_is _ _ _ _ _ _ _ true hval _).mono ?_; rintro e w' ⟨rfl, rfl⟩)
      go_ret
      exact ⟨ret_int H.out, But.of_below hal, fun h => (H0 h).elim⟩

def marks (n : Nat) : (Nat → Bool) → List Int → Int
  | _, [] => 0
  | made, v :: r => if markE n made v = 0 then marks n (markS made v) r else markE n made v
def oprM (l : List Opr) : List Int := (l.filter fun o => decide (o.kind = 2)).map (·.value)
def insM (l : List Ins) : List Int := l.flatMap fun x => oprM x.operands
def makersOf (b : Blk) : List Int := b.params ++ insM b.instrs

theorem oprM_def (o : Opr) (l : List Opr) (h : o.kind = 2) : oprM (o :: l) = o.value :: oprM l := by simp [oprM, h]
theorem oprM_use (o : Opr) (l : List Opr) (h : ¬ o.kind = 2) : oprM (o :: l) = oprM l := by simp [oprM, h]
theorem insM_cons (x : Ins) (l : List Ins) : insM (x :: l) = oprM x.operands ++ insM l := by simp [insM]

/-- What is marked so far, and what is still to be marked: 'rest'. -/
def MInv (B n : Nat) (av : Option Addr) (cv : Nat) (vb : Value) (m0 m1 : Int) (made : Nat → Bool) (left : Int) (L rest : List Int) (md : Nat → Bool) (lf : Int) (wr : World) : Prop :=
  MarkSt wr B n av cv vb m0 m1 md lf ∧ marks n made L = marks n md rest ∧ L.foldl markS made = rest.foldl markS md ∧ lf - rest.length = left - L.length ∧ rest.length ≤ L.length

theorem MInv.below {B n : Nat} {av : Option Addr} {cv : Nat} {vb : Value} {m0 m1 : Int} {made : Nat → Bool} {left : Int} {L rest : List Int} {md : Nat → Bool} {lf : Int} {wr w' : World} (h : MInv B n av cv vb m0 m1 made left L rest md lf wr) (hb : Below wr.heap.size wr w') : MInv B n av cv vb m0 m1 made left L rest md lf w' :=
  ⟨h.1.below hb, h.2⟩
theorem MInv.next {B n : Nat} {av : Option Addr} {cv : Nat} {vb : Value} {m0 m1 : Int} {made : Nat → Bool} {left : Int} {L rest : List Int} {v : Int} {md : Nat → Bool} {lf : Int} {wr w' : World} (h : MInv B n av cv vb m0 m1 made left L (v :: rest) md lf wr) (he : markE n md v = 0) (hs : MarkSt w' B n av cv vb m0 m1 (markS md v) (lf - 1)) : MInv B n av cv vb m0 m1 made left L rest (markS md v) (lf - 1) w' := by
  obtain ⟨h1, h2, h3, h4, h5⟩ := h
  refine ⟨hs, ?_, h3, ?_, ?_⟩
  · rw [h2, marks, if_pos he]
  · simp at h4; omega
  · simp at h5; omega
theorem MInv.err {B n : Nat} {av : Option Addr} {cv : Nat} {vb : Value} {m0 m1 : Int} {made : Nat → Bool} {left : Int} {L rest : List Int} {v : Int} {md : Nat → Bool} {lf : Int} {wr : World} (h : MInv B n av cv vb m0 m1 made left L (v :: rest) md lf wr) (he : ¬ markE n md v = 0) : marks n made L = markE n md v := by
  rw [h.2.1, marks, if_neg he]

theorem mark_is (B n : Nat) (av : Option Addr) (cv : Nat) (vb : Value) (m0 m1 : Int) (made : Nat → Bool) (left v : Int) (w : World) (r : Int) (h : markE n made v = r) (st : MarkSt w B n av cv vb m0 m1 made left) (hl : -1000000000 ≤ left) (hl' : left ≤ 1000000000) (hn : n ≤ 140737488355328) :
    Calls Try.prog 68 #[.int .i64 v, .pointer (some ⟨B, 0, none⟩), .pointer (some ⟨B + 1 + 1, 0, none⟩), .pointer (some ⟨B + 1 + 1 + 1, 0, none⟩)] w fun e w' => e = .returned (.int .i64 r) ∧ But (B + 1) (B + 1 + 1 + 1) w w' ∧ (r = 0 → MarkSt w' B n av cv vb m0 m1 (markS made v) (left - 1)) := by
  rw [← h]; exact mark_any B n av cv vb m0 m1 made left v w st hl hl' hn

set_option maxHeartbeats 4000000 in
theorem markBlock_any (B n : Nat) (av : Option Addr) (cv : Nat) (vb : Value) (m0 m1 : Int) (made : Nat → Bool) (left : Int) (b : Blk) (ap ai : Option Addr) (cp ci : Nat) (ve : Value) (w0 w : World) (st : MarkSt w B n av cv vb m0 m1 made left) (hl : -500000000 ≤ left) (hl' : left ≤ 500000000) (hn : n ≤ 140737488355328)
    (hw0 : Below w0.heap.size w0 w) (hwB : w0.heap.size ≤ B)
    (hp : SlOf w0 1 RInt (.slice ap b.params.length cp) b.params) (hi : SlOf w0 3 (RIns w0) (.slice ai b.instrs.length ci) b.instrs) (hfar : (makersOf b).length ≤ 100000000) :
    Calls Try.prog 70 #[.agg #[.slice ap b.params.length cp, .slice ai b.instrs.length ci, ve], (.func (.func 68) #[] #[.pointer (some ⟨B, 0, none⟩), .pointer (some ⟨B + 1 + 1, 0, none⟩), .pointer (some ⟨B + 1 + 1 + 1, 0, none⟩)])] w fun e w' => e = .returned (.int .i64 (marks n made (makersOf b))) ∧ But (B + 1) (B + 1 + 1 + 1) w w' ∧ (marks n made (makersOf b) = 0 → MarkSt w' B n av cv vb m0 m1 ((makersOf b).foldl markS made) (left - (makersOf b).length)) := by
  obtain ⟨_, _, _, lp⟩ := hp.out
  obtain ⟨_, _, _, li⟩ := hi.out
  unfold longest at lp li
  have hBw := st.2.2.2.lt
  obtain ⟨W1, hW1⟩ : ∃ W1, W1 = w.alloc (.cells #[.slice ap b.params.length cp, .slice ai b.instrs.length ci, ve] 50) := ⟨_, rfl⟩
  have hbw1 : Below w.heap.size w W1 := by rw [hW1]; exact (Below.refl _ _).alloc (Nat.le_refl _) _
  have hz1 : W1.heap.size = w.heap.size + 1 := by rw [hW1]; simp
  have HB : BlkAt W1 w.heap.size (.slice ap b.params.length cp) (.slice ai b.instrs.length ci) ve := by rw [hW1]; exact ⟨by simp, by simp, by simp, by simp⟩
  have HW : Hid (W1 = w.alloc (.cells #[.slice ap b.params.length cp, .slice ai b.instrs.length ci, ve] 50)) := hW1
  have HZ : Hid (W1.heap.size = w.heap.size + 1) := hz1
  have hI0 : MInv B n av cv vb m0 m1 made left (makersOf b) (b.params.drop 0 ++ insM b.instrs) made left W1 := ⟨st.below hbw1, rfl, rfl, rfl, Nat.le_refl _⟩
  clear hW1 hz1
  generalize hL : makersOf b = L at *
  clear hL
  go_enter Try.func70, Try.ntmps70
  go_wp2
  go_loopw [16] (fun i wr => ∃ (k : Nat) (md : Nat → Bool) (lf : Int), k ≤ b.params.length ∧ i = .int .i64 k ∧ But (B + 1) (B + 1 + 1 + 1) W1 wr ∧ w.heap.size < wr.heap.size ∧ MInv B n av cv vb m0 m1 made left L (b.params.drop k ++ insM b.instrs) md lf wr) (fun i _ => b.params.length - (intOf i).toNat)
  case atStart => exact ⟨0, made, left, Nat.zero_le _, rfl, by rw [HW.out]; exact But.refl _ _ _, by simp, by rw [← HW.out]; exact hI0⟩
  case round =>
    obtain ⟨k, md, lf, hk, rfl, hbr, hz, hI⟩ := hrel
    have hs1 := HZ.out
    have hb0 : Below w0.heap.size w0 wr := hw0.trans ((hbw1.mono hw0.size).trans (hbr.below (by have := hw0.size; omega) (by omega) (by omega)))
    have hI4 := hI.2.2.2.1
    have hI5 := hI.2.2.2.2
    by_cases hlt : k < b.params.length
    · obtain ⟨ba, offa, rfl, hba, a0⟩ := int_cell (hp.below hb0 fun _ _ h => h) k hlt
      have hI' : MInv B n av cv vb m0 m1 made left L (b.params[k] :: (b.params.drop (k + 1) ++ insM b.instrs)) md lf wr := by
        have e : b.params.drop k ++ insM b.instrs = b.params[k] :: (b.params.drop (k + 1) ++ insM b.instrs) := by rw [List.drop_eq_getElem_cons hlt]; rfl
        rw [← e]; exact hI
      generalize b.params[k] = v at *
      clear hI hs1
      by_cases he : markE n md v = 0
      · have hstp := hI'.1
        go_wp2_with (go_at_call 68; refine (mark_is B n av cv vb m0 m1 md lf v _ 0 he (hstp) (by omega) (by omega) hn).mono ?_; rintro e w2 ⟨rfl, hbut, hst⟩)
        have hz2 := hbut.size
        go_roundw
        case rel => exact ⟨k + 1, markS md v, lf - 1, by omega, by go_num, hbr.trans hbut, by omega, hI'.next he (hst (by first | trivial | rfl))⟩
        case measure => simp [intOf]; omega
      · have hE := hI'.err he
        have ⟨er, her⟩ : ∃ er, markE n md v = er := ⟨_, rfl⟩
        rw [her] at hE he
        have H : Hid (er = marks n made L) := hE.symm
        have hne : (er != 0) = true := by simpa using he
        have H0 : ¬ marks n made L = 0 := by rw [hE]; exact he
        have hstp := hI'.1
        clear hE
        have he := her
        go_wp2_with (go_at_call 68; refine (mark_is B n av cv vb m0 m1 md lf v _ er he (hstp) (by omega) (by omega) hn).mono ?_; rintro e w2 ⟨rfl, hbut, hst⟩)
        go_ret
        exact ⟨ret_int H.out, (But.of_below hbw1).trans (hbr.trans hbut), fun h => (H0 h).elim⟩
    · have hI1 : MInv B n av cv vb m0 m1 made left L (insM (b.instrs.drop 0)) md lf wr := by
        have e : b.params.drop k ++ insM b.instrs = insM (b.instrs.drop 0) := by rw [List.drop_of_length_le (by omega)]; rfl
        rw [← e]; exact hI
      clear hI hI4 hI5
      have t0 := (hbr.cell (x := ⟨w.heap.size, 0, none⟩) (by show w.heap.size < _; omega) (by show w.heap.size ≠ _; omega) (by show w.heap.size ≠ _; omega)).trans HB.2.1
      have t1 := (hbr.cell (x := ⟨w.heap.size, 1, none⟩) (by show w.heap.size < _; omega) (by show w.heap.size ≠ _; omega) (by show w.heap.size ≠ _; omega)).trans HB.2.2.1
      clear hs1
      go_wp2
      clear t0 t1
      go_loopw [30] (fun i wr => ∃ (k : Nat) (md : Nat → Bool) (lf : Int), k ≤ b.instrs.length ∧ i = .int .i64 k ∧ But (B + 1) (B + 1 + 1 + 1) W1 wr ∧ w.heap.size < wr.heap.size ∧ MInv B n av cv vb m0 m1 made left L (insM (b.instrs.drop k)) md lf wr) (fun i _ => b.instrs.length - (intOf i).toNat)
      case atStart => exact ⟨0, md, lf, Nat.zero_le _, rfl, hbr, hz, hI1⟩
      case round =>
        clear hb0 hI1 hz hbr hlt
        obtain ⟨k, md, lf, hk2, rfl, hbr, hz, hI⟩ := hrel
        have hs1 := HZ.out
        have hb0 : Below w0.heap.size w0 wr := hw0.trans ((hbw1.mono hw0.size).trans (hbr.below (by have := hw0.size; omega) (by omega) (by omega)))
        by_cases hlt : k < b.instrs.length
        · have hI' : MInv B n av cv vb m0 m1 made left L (oprM (b.instrs[k].operands.drop 0) ++ insM (b.instrs.drop (k + 1))) md lf wr := by
            have e : insM (b.instrs.drop k) = oprM (b.instrs[k].operands.drop 0) ++ insM (b.instrs.drop (k + 1)) := by rw [List.drop_eq_getElem_cons hlt, insM_cons]; rfl
            rw [← e]; exact hI
          clear hI
          obtain ⟨b5, off5, cs, rfl, hcl5, ⟨vo, vs, rfl, ho, hsp⟩, hc⟩ := hi.at k hlt
          obtain ⟨ao, co, rfl, lo⟩ := ho.out
          obtain ⟨asp, csp, rfl, lsp⟩ := hsp.out
          unfold longest at lo
          have c0 := (hb0.cell (p := ⟨b5, off5 + k * 3 + 0, none⟩) (block_lt (hc 0 (by simp)))).trans (hc 0 (by simp))
          have c1 := (hb0.cell (p := ⟨b5, off5 + k * 3 + 1, none⟩) (block_lt (hc 1 (by simp)))).trans (hc 1 (by simp))
          have c2 := (hb0.cell (p := ⟨b5, off5 + k * 3 + 2, none⟩) (block_lt (hc 2 (by simp)))).trans (hc 2 (by simp))
          simp at c0 c1 c2
          clear hc hcl5 hs1
          generalize b.instrs[k] = x at *
          have hba0 : Below wr.heap.size wr (wr.alloc (.cells #[.int .i64 x.op, .slice ao x.operands.length co, .slice asp x.spoils.length csp] 40)) := (Below.refl _ _).alloc (Nat.le_refl _) _
          have hI0 := hI'.below hba0
          have hbr0 := hbr.alloc (.cells #[.int .i64 x.op, .slice ao x.operands.length co, .slice asp x.spoils.length csp] 40)
          have hz0 : w.heap.size < (wr.alloc (.cells #[.int .i64 x.op, .slice ao x.operands.length co, .slice asp x.spoils.length csp] 40)).heap.size := by simp; omega
          go_wp2
          clear c0 c1 c2
          go_loopw [37] (fun j w3 => ∃ (q : Nat) (md : Nat → Bool) (lf : Int), q ≤ x.operands.length ∧ j = .int .i64 q ∧ But (B + 1) (B + 1 + 1 + 1) W1 w3 ∧ w.heap.size < w3.heap.size ∧ MInv B n av cv vb m0 m1 made left L (oprM (x.operands.drop q) ++ insM (b.instrs.drop (k + 1))) md lf w3) (fun j _ => x.operands.length - (intOf j).toNat)
          case atStart => exact ⟨0, md, lf, Nat.zero_le _, rfl, hbr0, hz0, hI0⟩
          case round =>
            clear hb0 hI' hI0 hbr0 hz0 hba0 hbr hz
            obtain ⟨q, md, lf, hq, rfl, hbr, hz, hI⟩ := hrel
            have hs1 := HZ.out
            have hb0 : Below w0.heap.size w0 wr := hw0.trans ((hbw1.mono hw0.size).trans (hbr.below (by have := hw0.size; omega) (by omega) (by omega)))
            have hI4 := hI.2.2.2.1
            have hI5 := hI.2.2.2.2
            by_cases hql : q < x.operands.length
            · obtain ⟨b6, off6, rfl, hb6, c0, c1, c2, c3, c4⟩ := opr_cells (ho.below hb0 fun _ _ h => h) q hql
              have hdr : x.operands.drop q = x.operands[q] :: x.operands.drop (q + 1) := List.drop_eq_getElem_cons hql
              rw [hdr] at hI
              generalize x.operands[q] = o at *
              clear hdr hs1
              have hbo : Below wr.heap.size wr (wr.alloc (.cells #[.int .i64 o.kind, .int .i64 o.value, .bool o.late, .int .i64 o.limit, .int .i64 o.n] 43)) := (Below.refl _ _).alloc (Nat.le_refl _) _
              by_cases hk2 : o.kind = 2
              · have qk : (o.kind != 2) = false := by simp [hk2]
                have hI' : MInv B n av cv vb m0 m1 made left L (o.value :: (oprM (x.operands.drop (q + 1)) ++ insM (b.instrs.drop (k + 1)))) md lf wr := by
                  have e := oprM_def o (x.operands.drop (q + 1)) hk2
                  rw [e] at hI
                  exact hI
                have hstp := (hI'.below hbo).1
                clear hI hk2
                by_cases he : markE n md o.value = 0
                · skip
                  go_wp2_with (go_at_call 68; refine (mark_is B n av cv vb m0 m1 md lf o.value _ 0 he (hstp) (by omega) (by omega) hn).mono ?_; rintro e w2 ⟨rfl, hbut, hst⟩)
                  have hz2 := hbut.size
                  simp at hz2
                  go_roundw
                  case rel => exact ⟨q + 1, markS md o.value, lf - 1, by omega, by go_num, (hbr.alloc _).trans hbut, by omega, hI'.next he (hst (by first | trivial | rfl))⟩
                  case measure => simp [intOf]; omega
                · have hE := hI'.err he
                  have ⟨er, her⟩ : ∃ er, markE n md o.value = er := ⟨_, rfl⟩
                  rw [her] at hE he
                  have H : Hid (er = marks n made L) := hE.symm
                  have hne : (er != 0) = true := by simpa using he
                  have H0 : ¬ marks n made L = 0 := by rw [hE]; exact he
                  clear hE
                  have he := her
                  go_wp2_with (go_at_call 68; refine (mark_is B n av cv vb m0 m1 md lf o.value _ er he (hstp) (by omega) (by omega) hn).mono ?_; rintro e w2 ⟨rfl, hbut, hst⟩)
                  go_ret
                  exact ⟨ret_int H.out, (But.of_below hbw1).trans ((hbr.alloc _).trans hbut), fun h => (H0 h).elim⟩
              · have qk : (o.kind != 2) = true := by simpa using hk2
                have hI' : MInv B n av cv vb m0 m1 made left L (oprM (x.operands.drop (q + 1)) ++ insM (b.instrs.drop (k + 1))) md lf wr := by
                  have e := oprM_use o (x.operands.drop (q + 1)) hk2
                  rw [e] at hI
                  exact hI
                clear hI hk2
                go_wp2
                go_roundw
                case rel => exact ⟨q + 1, md, lf, by omega, by go_num, hbr.alloc _, by simp; omega, hI'.below hbo⟩
                case measure => simp [intOf]; omega
            · have hI' : MInv B n av cv vb m0 m1 made left L (insM (b.instrs.drop (k + 1))) md lf wr := by
                have e : oprM (x.operands.drop q) ++ insM (b.instrs.drop (k + 1)) = insM (b.instrs.drop (k + 1)) := by rw [List.drop_of_length_le (by omega)]; rfl
                rw [← e]; exact hI
              clear hI hs1
              go_wp2
              go_roundw
              case rel => exact ⟨k + 1, md, lf, by omega, by go_num, hbr, hz, hI'⟩
              case measure => simp [intOf]; omega
        · have hI' : MInv B n av cv vb m0 m1 made left L [] md lf wr := by
            have e : insM (b.instrs.drop k) = [] := by rw [List.drop_of_length_le (by omega)]; rfl
            rw [← e]; exact hI
          clear hI hs1
          have H : Hid (0 = marks n made L) := hI'.2.1.symm
          have hfin : MarkSt wr B n av cv vb m0 m1 (L.foldl markS made) (left - L.length) := by
            have h1 := hI'.2.2.1
            have h2 := hI'.2.2.2.1
            have e : left - L.length = lf := by simp at h2; omega
            rw [h1, e]; exact hI'.1
          go_wp2
          go_ret
          exact ⟨ret_int H.out, (But.of_below hbw1).trans hbr, fun _ => hfin⟩
end Go.Proofs.Ytengmgdnpojfjaa
