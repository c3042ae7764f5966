/-
  The contract of 'checker.madeOnce': whether each value is made, and none of them twice (P1.9).
  The contract of 'shape.Check': which error a function has for a machine (P1.2 to P1.9), for whatever function and machine.
  The contract of the statements' own 'Machine'; and how a slice that a call has made reads as a list.
  Slices that a call has made by append: how they are kept, and how they read as lists.
-/
import Derived.Test.YtglfpnnfcpnmoaaA3
import Derived.Test.YtglfpnnfcpnmoaaA1
import Derived.Deep.AppendLies
namespace Go.Proofs.Ytglfpnnfcpnmoaa
open Go.RowKit
set_option linter.unusedVariables false

def allM (blocks : List Blk) : List Int := blocks.flatMap makersOf
def madeErr (values : List Int) (blocks : List Blk) : Int :=
  if marks values.length (fun _ => false) (allM blocks) = 0 then (if (allM blocks).length < values.length then 6 else 0) else marks values.length (fun _ => false) (allM blocks)

theorem marks_append (n : Nat) : ∀ (l1 l2 : List Int) (md : Nat → Bool), marks n md (l1 ++ l2) = if marks n md l1 = 0 then marks n (l1.foldl markS md) l2 else marks n md l1
  | [], l2, md => by simp [marks]
  | v :: r, l2, md => by
    by_cases h : markE n md v = 0
    · simp only [List.cons_append, marks, if_pos h, List.foldl_cons]
      exact marks_append n r l2 _
    · simp only [List.cons_append, marks, if_neg h]
theorem MInv.nextL {B n : Nat} {av : Option Addr} {cv : Nat} {vb : Value} {m0 m1 : Int} {made : Nat → Bool} {left : Int} {L l rest : List Int} {md : Nat → Bool} {lf : Int} {wr w' : World} (h : MInv B n av cv vb m0 m1 made left L (l ++ rest) md lf wr) (he : marks n md l = 0) (hs : MarkSt w' B n av cv vb m0 m1 (l.foldl markS md) (lf - l.length)) : MInv B n av cv vb m0 m1 made left L rest (l.foldl markS md) (lf - l.length) w' := by
  obtain ⟨h1, h2, h3, h4, h5⟩ := h
  refine ⟨hs, ?_, ?_, ?_, ?_⟩
  · rw [h2, marks_append, if_pos he]
  · rw [h3, List.foldl_append]
  · simp at h4; omega
  · simp at h5; omega
theorem MInv.errL {B n : Nat} {av : Option Addr} {cv : Nat} {vb : Value} {m0 m1 : Int} {made : Nat → Bool} {left : Int} {L l rest : List Int} {md : Nat → Bool} {lf : Int} {wr : World} (h : MInv B n av cv vb m0 m1 made left L (l ++ rest) md lf wr) (he : ¬ marks n md l = 0) : marks n made L = marks n md l := by
  rw [h.2.1, marks_append, if_neg he]
theorem markBlock_is (B n : Nat) (av : Option Addr) (cv : Nat) (vb : Value) (m0 m1 : Int) (made : Nat → Bool) (left : Int) (b : Blk) (ap ai : Option Addr) (cp ci : Nat) (ve : Value) (w0 w : World) (r : Int) (hr : marks n made (makersOf b) = r) (st : MarkSt w B n av cv vb m0 m1 made left) (hl : -500000000 ≤ left) (hl' : left ≤ 500000000) (hn : n ≤ 140737488355328)
    (hw0 : Below w0.heap.size w0 w) (hwB : w0.heap.size ≤ B)
    (hp : SlOf w0 1 RInt (.slice ap b.params.length cp) b.params) (hi : SlOf w0 3 (RIns w0) (.slice ai b.instrs.length ci) b.instrs) (hfar : (makersOf b).length ≤ 100000000) :
    Calls Try.prog 59 #[.agg #[.slice ap b.params.length cp, .slice ai b.instrs.length ci, ve], (.func (.func 57) #[] #[.pointer (some ⟨B, 0, none⟩), .pointer (some ⟨B + 1 + 1, 0, none⟩), .pointer (some ⟨B + 1 + 1 + 1, 0, none⟩)])] w fun e w' => e = .returned (.int .i64 r) ∧ But (B + 1) (B + 1 + 1 + 1) w w' ∧ (r = 0 → MarkSt w' B n av cv vb m0 m1 ((makersOf b).foldl markS made) (left - (makersOf b).length)) := by
  rw [← hr]; exact markBlock_any B n av cv vb m0 m1 made left b ap ai cp ci ve w0 w st hl hl' hn hw0 hwB hp hi hfar

set_option maxHeartbeats 4000000 in
theorem madeOnce_any (values : List Int) (av : Option Addr) (cv : Nat) (blocks : List Blk) (ab : Option Addr) (cb : Nat) (m0 m1 : Int) (w : World) (hv : SlOf w 1 RInt (.slice av values.length cv) values) (hbl : SlOf w 3 (RBlk w) (.slice ab blocks.length cb) blocks) (hn : values.length ≤ 400000000) (hfar : (allM blocks).length ≤ 100000000) :
    Calls Try.prog 47 #[.agg #[.slice av values.length cv, .slice ab blocks.length cb, .int .i64 m0, .int .i64 m1]] w fun e w' => e = .returned (.int .i64 (madeErr values blocks)) ∧ Below w.heap.size w w' := by
  obtain ⟨_, _, _, lv⟩ := hv.out
  obtain ⟨_, _, _, lb⟩ := hbl.out
  unfold longest at lv lb
  have hmk := run_make_row' (P := Try.prog) 87 4 (.bool false) 1 Try.underlying87 (by kernel_rfl) rfl .i64 .i64 values.length (by omega) (by omega)
  obtain ⟨W4, hW4⟩ : ∃ W4, W4 = (((w.alloc (.cells #[.slice av values.length cv, .slice ab blocks.length cb, .int .i64 m0, .int .i64 m1] 106)).alloc (.cells (madeCells #[.bool false] values.length) 4)).alloc (.cells #[.slice (some ⟨w.heap.size + 1, 0, none⟩) values.length values.length] 87)).alloc (.cells #[.int .i64 values.length] 3) := ⟨_, rfl⟩
  have hz4 : W4.heap.size = w.heap.size + 1 + 1 + 1 + 1 := by rw [hW4]; simp
  have hbw4 : Below w.heap.size w W4 := by
    rw [hW4]
    exact ((((Below.refl _ _).alloc (Nat.le_refl _) _).alloc (by simp) _).alloc (by simp; omega) _).alloc (by simp; omega) _
  have hst : MarkSt W4 w.heap.size values.length av cv (.slice ab blocks.length cb) m0 m1 (fun _ => false) values.length := by
    rw [hW4]
    obtain ⟨V1, hV1⟩ : ∃ V1, V1 = w.alloc (.cells #[.slice av values.length cv, .slice ab blocks.length cb, .int .i64 m0, .int .i64 m1] 106) := ⟨_, rfl⟩
    have z1 : V1.heap.size = w.heap.size + 1 := by rw [hV1]; simp
    have HC : ChkAt V1 w.heap.size (.slice av values.length cv) (.slice ab blocks.length cb) m0 m1 := by rw [hV1]; exact ⟨by simp, by simp, by simp, by simp, by simp⟩
    rw [← hV1]
    clear hV1
    obtain ⟨V2, hV2⟩ : ∃ V2, V2 = V1.alloc (.cells (madeCells #[.bool false] values.length) 4) := ⟨_, rfl⟩
    have z2 : V2.heap.size = w.heap.size + 1 + 1 := by rw [hV2]; simp [z1]
    have r1 : V2.rowIs (w.heap.size + 1) 4 values.length (fun _ => .bool false) := by rw [hV2, ← z1]; exact World.rowIs_made _ _ _ _
    have HC2 : ChkAt V2 w.heap.size (.slice av values.length cv) (.slice ab blocks.length cb) m0 m1 := HC.below (w' := V2) (B := V1.heap.size) (by rw [hV2]; exact (Below.refl _ _).alloc (Nat.le_refl _) _) (by omega)
    rw [← hV2]
    clear hV2 HC
    obtain ⟨V3, hV3⟩ : ∃ V3, V3 = V2.alloc (.cells #[.slice (some ⟨w.heap.size + 1, 0, none⟩) values.length values.length] 87) := ⟨_, rfl⟩
    have z3 : V3.heap.size = w.heap.size + 1 + 1 + 1 := by rw [hV3]; simp [z2]
    have r2 : V3.rowIs (w.heap.size + 1 + 1) 87 1 (fun _ => .slice (some ⟨w.heap.size + 1, 0, none⟩) values.length values.length) := by
      rw [hV3, ← z2]
      exact World.rowIs_alloc _ _ _ _ (fun i hi => by simp at hi; subst hi; rfl)
    have r1' : V3.rowIs (w.heap.size + 1) 4 values.length (fun _ => .bool false) := by rw [hV3]; exact r1.alloc _
    have HC3 : ChkAt V3 w.heap.size (.slice av values.length cv) (.slice ab blocks.length cb) m0 m1 := HC2.below (w' := V3) (B := V2.heap.size) (by rw [hV3]; exact (Below.refl _ _).alloc (Nat.le_refl _) _) (by omega)
    rw [← hV3]
    clear hV3 HC2 r1
    refine ⟨HC3.below (B := V3.heap.size) ((Below.refl _ _).alloc (Nat.le_refl _) _) (by omega), r1'.alloc _, r2.alloc _, ?_⟩
    rw [← z3]
    exact World.rowIs_alloc _ _ _ _ (fun i hi => by simp at hi; subst hi; rfl)
  have HW : Hid (W4 = (((w.alloc (.cells #[.slice av values.length cv, .slice ab blocks.length cb, .int .i64 m0, .int .i64 m1] 106)).alloc (.cells (madeCells #[.bool false] values.length) 4)).alloc (.cells #[.slice (some ⟨w.heap.size + 1, 0, none⟩) values.length values.length] 87)).alloc (.cells #[.int .i64 values.length] 3)) := hW4
  have HZ : Hid (W4.heap.size = w.heap.size + 1 + 1 + 1 + 1) := hz4
  have hI0 : MInv w.heap.size values.length av cv (.slice ab blocks.length cb) m0 m1 (fun _ => false) values.length (allM blocks) (allM (blocks.drop 0)) (fun _ => false) values.length W4 := ⟨hst, rfl, rfl, rfl, Nat.le_refl _⟩
  have HE : Hid (madeErr values blocks = if marks values.length (fun _ => false) (allM blocks) = 0 then (if (allM blocks).length < values.length then 6 else 0) else marks values.length (fun _ => false) (allM blocks)) := rfl
  clear hW4 hz4 hst
  generalize hL : allM blocks = L at *
  clear hL
  go_enter Try.func47, Try.ntmps47
  go_wp2
  clear hmk
  go_loopw [21] (fun i wr => ∃ (k : Nat) (md : Nat → Bool) (lf : Int), k ≤ blocks.length ∧ i = .int .i64 k ∧ But (w.heap.size + 1) (w.heap.size + 1 + 1 + 1) W4 wr ∧ w.heap.size + 1 + 1 + 1 < wr.heap.size ∧ MInv w.heap.size values.length av cv (.slice ab blocks.length cb) m0 m1 (fun _ => false) values.length L (allM (blocks.drop k)) md lf wr) (fun i _ => blocks.length - (intOf i).toNat)
  case atStart => exact ⟨0, fun _ => false, values.length, Nat.zero_le _, rfl, by rw [HW.out]; exact But.refl _ _ _, by simp, by rw [← HW.out]; exact hI0⟩
  case round =>
    obtain ⟨k, md, lf, hk, rfl, hbr, hz, hI⟩ := hrel
    have hs1 := HZ.out
    have hb0 : Below w.heap.size w wr := hbw4.trans (hbr.below (by omega) (by omega) (by omega))
    have hI4 := hI.2.2.2.1
    have hI5 := hI.2.2.2.2
    by_cases hlt : k < blocks.length
    · obtain ⟨b5, off5, cs, rfl, hcl5, ⟨vp, vi, ve, rfl, hp, hi, he0⟩, hc⟩ := hbl.at k hlt
      obtain ⟨ap, cp, rfl, lp⟩ := hp.out
      obtain ⟨ai, ci, rfl, li⟩ := hi.out
      obtain ⟨ae, ce, rfl, le⟩ := he0.out
      have c0 := (hb0.cell (p := ⟨b5, off5 + k * 3 + 0, none⟩) (block_lt (hc 0 (by simp)))).trans (hc 0 (by simp))
      have c1 := (hb0.cell (p := ⟨b5, off5 + k * 3 + 1, none⟩) (block_lt (hc 1 (by simp)))).trans (hc 1 (by simp))
      have c2 := (hb0.cell (p := ⟨b5, off5 + k * 3 + 2, none⟩) (block_lt (hc 2 (by simp)))).trans (hc 2 (by simp))
      simp at c0 c1 c2
      have hI' : MInv w.heap.size values.length av cv (.slice (some ⟨b5, off5, none⟩) blocks.length cb) m0 m1 (fun _ => false) values.length L (makersOf blocks[k] ++ allM (blocks.drop (k + 1))) md lf wr := by
        have e : allM (blocks.drop k) = makersOf blocks[k] ++ allM (blocks.drop (k + 1)) := by rw [List.drop_eq_getElem_cons hlt]; exact List.flatMap_cons
        rw [← e]; exact hI
      clear hc hcl5 hs1 hI
      generalize blocks[k] = b at *
      have hba0 : Below wr.heap.size wr (wr.alloc (.cells #[.slice ap b.params.length cp, .slice ai b.instrs.length ci, .slice ae b.edges.length ce] 40)) := (Below.refl _ _).alloc (Nat.le_refl _) _
      have hstp := (hI'.below hba0).1
      have hw1 : Below w.heap.size w (wr.alloc (.cells #[.slice ap b.params.length cp, .slice ai b.instrs.length ci, .slice ae b.edges.length ce] 40)) := hb0.alloc (by omega) _
      have hlen := hI'.2.2.2.2
      have hlen2 := hI'.2.2.2.1
      simp only [List.length_append] at hlen hlen2
      by_cases he : marks values.length md (makersOf b) = 0
      · go_wp2_with (go_at_call 59; refine (markBlock_is w.heap.size values.length av cv (.slice (some ⟨b5, off5, none⟩) blocks.length cb) m0 m1 md lf b _ _ _ _ _ w _ 0 he hstp (by omega) (by omega) (by omega) hw1 (Nat.le_refl _) hp hi (by omega)).mono ?_; rintro e w2 ⟨rfl, hbut, hst⟩)
        have hz2 := hbut.size
        simp at hz2
        go_roundw
        case rel => exact ⟨k + 1, (makersOf b).foldl markS md, lf - (makersOf b).length, by omega, by go_num, (hbr.alloc _).trans hbut, by omega, hI'.nextL he (hst (by first | trivial | rfl))⟩
        case measure => simp [intOf]; omega
      · have hE := hI'.errL he
        have ⟨er, her⟩ : ∃ er, marks values.length md (makersOf b) = er := ⟨_, rfl⟩
        rw [her] at hE he
        have H : Hid (er = madeErr values blocks) := by show _ = _; rw [HE.out, if_neg (by rw [hE]; exact he), hE]
        have hne : (er != 0) = true := by simpa using he
        clear hE
        go_wp2_with (go_at_call 59; refine (markBlock_is w.heap.size values.length av cv (.slice (some ⟨b5, off5, none⟩) blocks.length cb) m0 m1 md lf b _ _ _ _ _ w _ er her hstp (by omega) (by omega) (by omega) hw1 (Nat.le_refl _) hp hi (by omega)).mono ?_; rintro e w2 ⟨rfl, hbut, hst⟩)
        go_ret
        exact ⟨ret_int H.out, hbw4.trans (((hbr.alloc _).trans hbut).below (by have := HZ.out; omega) (by omega) (by omega))⟩
    · have hI' : MInv w.heap.size values.length av cv (.slice ab blocks.length cb) m0 m1 (fun _ => false) values.length L [] md lf wr := by
        have e : allM (blocks.drop k) = [] := by rw [List.drop_of_length_le (by omega)]; rfl
        rw [← e]; exact hI
      have hm0 : marks values.length (fun _ => false) L = 0 := hI'.2.1
      have hlf : lf = (values.length : Int) - L.length := by have := hI'.2.2.2.1; simp at this; omega
      have l0 := hI'.1.2.2.2.cell (i := 0) (by omega)
      clear hI hs1 hI4 hI5
      by_cases hpos : 0 < lf
      · have H : Hid (6 = madeErr values blocks) := by show _ = _; rw [HE.out, if_pos hm0, if_pos (by omega)]
        clear hlf hm0
        go_wp2
        go_ret
        exact ⟨ret_int H.out, hb0⟩
      · have H : Hid (0 = madeErr values blocks) := by show _ = _; rw [HE.out, if_pos hm0, if_neg (by omega)]
        clear hlf hm0
        go_wp2
        go_ret
        exact ⟨ret_int H.out, hb0⟩
end Go.Proofs.Ytglfpnnfcpnmoaa
namespace Go.Proofs.Ytglfpnnfcpnmoaa
open Go.RowKit
set_option linter.unusedVariables false

def firstParams (f : Fn) : Nat := match f.blocks with
  | [] => 0
  | b :: _ => b.params.length
def shapeErr (f : Fn) (m0 m1 : Int) : Int :=
  if machErr m0 m1 ≠ 0 then machErr m0 m1
  else if sizesB f = false then 1
  else if f.values.all isClassB = false then 17
  else if 0 < firstParams f then 4
  else if firstE (blockErr f.values f.blocks m0 m1) f.blocks ≠ 0 then firstE (blockErr f.values f.blocks m0 m1) f.blocks
  else madeErr f.values f.blocks

theorem firstParams_eq (f : Fn) (h : 0 < f.blocks.length) : firstParams f = f.blocks[0].params.length := by
  obtain ⟨vs, bs⟩ := f
  cases bs with
  | nil => simp at h
  | cons b r => rfl

theorem checkMachine_is (x y r : Int) (h : machErr x y = r) (w : World) :
    Calls Try.prog 43 #[.agg #[.int .i64 x, .int .i64 y]] w fun e w' => e = .returned (.int .i64 r) ∧ Below w.heap.size w w' := by
  rw [← h]; exact checkMachine_any x y w
theorem sizesFit_is (f : Fn) (vv vb : Value) (w : World) (r : Bool) (h : sizesB f = r) (hv : SlOf w 1 RInt vv f.values) (hb : SlOf w 3 (RBlk w) vb f.blocks) :
    Calls Try.prog 44 #[.agg #[vv, vb]] w fun e w' => e = .returned (.bool r) ∧ Below w.heap.size w w' := by
  rw [← h]; exact sizesFit_any f vv vb w hv hb
theorem block_is (values : List Int) (av : Option Addr) (cv : Nat) (blocks : List Blk) (ab : Option Addr) (cb : Nat) (m0 m1 : Int) (b : Blk) (vp : Value) (ai ae : Option Addr) (ci ce : Nat) (w : World) (r : Int) (h : blockErr values blocks m0 m1 b = r) (hv : SlOf w 1 RInt (.slice av values.length cv) values)
    (hbl : SlOf w 3 (RBlk w) (.slice ab blocks.length cb) blocks) (hi : SlOf w 3 (RIns w) (.slice ai b.instrs.length ci) b.instrs) (he0 : SlOf w 2 (REdg w) (.slice ae b.edges.length ce) b.edges)
    (hcls : ∀ v, isValueB values.length v = true → classAt values v = 0 ∨ classAt values v = 1) :
    Calls Try.prog 46 #[.agg #[.slice av values.length cv, .slice ab blocks.length cb, .int .i64 m0, .int .i64 m1], .agg #[vp, .slice ai b.instrs.length ci, .slice ae b.edges.length ce]] w fun e w' => e = .returned (.int .i64 r) ∧ Below w.heap.size w w' := by
  rw [← h]; exact block_any values av cv blocks ab cb m0 m1 b vp ai ae ci ce w hv hbl hi he0 hcls
theorem madeOnce_is (values : List Int) (av : Option Addr) (cv : Nat) (blocks : List Blk) (ab : Option Addr) (cb : Nat) (m0 m1 : Int) (w : World) (r : Int) (h : madeErr values blocks = r) (hv : SlOf w 1 RInt (.slice av values.length cv) values) (hbl : SlOf w 3 (RBlk w) (.slice ab blocks.length cb) blocks) (hn : values.length ≤ 400000000) (hfar : (allM blocks).length ≤ 100000000) :
    Calls Try.prog 47 #[.agg #[.slice av values.length cv, .slice ab blocks.length cb, .int .i64 m0, .int .i64 m1]] w fun e w' => e = .returned (.int .i64 r) ∧ Below w.heap.size w w' := by
  rw [← h]; exact madeOnce_any values av cv blocks ab cb m0 m1 w hv hbl hn hfar

theorem oprM_le (l : List Opr) : (oprM l).length ≤ l.length := by
  unfold oprM
  rw [List.length_map]
  exact List.length_filter_le _ _
theorem insM_le : ∀ (l : List Ins), l.all insFits = true → (insM l).length ≤ 6 * l.length
  | [], _ => by simp [insM]
  | x :: r, h => by
    simp only [List.all_cons, Bool.and_eq_true] at h
    have h1 := insM_le r h.2
    have h2 := oprM_le x.operands
    have h3 : x.operands.length ≤ 6 := by have := h.1; simp [insFits] at this; exact this.1
    rw [insM_cons, List.length_append, List.length_cons]
    omega
theorem makersOf_le (b : Blk) (h : blkFits b = true) : (makersOf b).length ≤ 245 := by
  unfold blkFits at h
  simp only [Bool.and_eq_true, decide_eq_true_eq] at h
  have h1 := insM_le b.instrs h.2
  rw [makersOf, List.length_append]
  omega
theorem sizesGo_fits : ∀ (l : List Blk) (a : Nat), sizesGo a l = true → ∀ b ∈ l, blkFits b = true
  | [], _, _ => by simp
  | c :: r, a, h => by
    unfold sizesGo at h
    split at h
    · simp at h
    · split at h
      · rename_i h2
        intro b hb
        rcases List.mem_cons.1 hb with rfl | hb
        · exact h2
        · exact sizesGo_fits r _ h b hb
      · simp at h
theorem allM_le : ∀ (l : List Blk), (∀ b ∈ l, blkFits b = true) → (allM l).length ≤ 245 * l.length
  | [], _ => by simp [allM]
  | b :: r, h => by
    have h1 := allM_le r fun c hc => h c (List.mem_cons_of_mem _ hc)
    have h2 := makersOf_le b (h b List.mem_cons_self)
    have e : allM (b :: r) = makersOf b ++ allM r := by simp [allM]
    rw [e, List.length_append, List.length_cons]
    omega
theorem sizesB_true {f : Fn} (h : sizesB f = true) : 0 < f.blocks.length ∧ f.blocks.length ≤ 16 ∧ f.values.length ≤ 160 ∧ (allM f.blocks).length ≤ 4000 := by
  unfold sizesB at h
  by_cases hh : f.blocks.length = 0 ∨ 16 < f.blocks.length ∨ 160 < f.values.length
  · rw [if_pos hh] at h; simp at h
  · rw [if_neg hh] at h
    have := allM_le f.blocks (sizesGo_fits _ _ h)
    omega
theorem classes_of {values : List Int} (h : values.all isClassB = true) (v : Int) (hv : isValueB values.length v = true) : classAt values v = 0 ∨ classAt values v = 1 := by
  have hh : 0 ≤ v ∧ v < (values.length : Int) := by simpa [isValueB] using hv
  have hi : v.toNat < values.length := by omega
  have h1 := List.all_eq_true.1 h _ (List.getElem_mem hi)
  have e : classAt values v = values[v.toNat] := by simp [classAt, List.getD, List.getElem?_eq_getElem hi]
  rw [e]
  simp [isClassB] at h1
  omega

set_option maxHeartbeats 4000000 in
theorem check_any (f : Fn) (m0 m1 : Int) (vv vb : Value) (w : World) (hv0 : SlOf w 1 RInt vv f.values) (hb0 : SlOf w 3 (RBlk w) vb f.blocks) :
    Calls Try.prog 35 #[.agg #[vv, vb], .agg #[.int .i64 m0, .int .i64 m1]] w fun e w' => e = .returned (.int .i64 (shapeErr f m0 m1)) ∧ Below w.heap.size w w' := by
  obtain ⟨av, cv, rfl, lv⟩ := hv0.out
  obtain ⟨ab, cb, rfl, lb⟩ := hb0.out
  unfold longest at lv lb
  have hv := hv0
  have hb := hb0
  obtain ⟨W2, hW2⟩ : ∃ W2, W2 = (w.alloc (.cells #[.slice av f.values.length cv, .slice ab f.blocks.length cb] 30)).alloc (.cells #[.int .i64 m0, .int .i64 m1] 25) := ⟨_, rfl⟩
  have hbw2 : Below w.heap.size w W2 := by rw [hW2]; exact ((Below.refl _ _).alloc (Nat.le_refl _) _).alloc (by simp) _
  have HF : TwoAt W2 w.heap.size (.slice av f.values.length cv) (.slice ab f.blocks.length cb) := by rw [hW2]; exact ⟨by simp; omega, by simp, by simp⟩
  have HM : TwoAt W2 (w.heap.size + 1) (.int .i64 m0) (.int .i64 m1) := by rw [hW2]; exact ⟨by simp, by simp, by simp⟩
  have hz2 : W2.heap.size = w.heap.size + 1 + 1 := by rw [hW2]; simp
  have HW : Hid (W2 = (w.alloc (.cells #[.slice av f.values.length cv, .slice ab f.blocks.length cb] 30)).alloc (.cells #[.int .i64 m0, .int .i64 m1] 25)) := hW2
  have HZ : Hid (W2.heap.size = w.heap.size + 1 + 1) := hz2
  clear hW2 hz2
  by_cases hm : machErr m0 m1 = 0
  · cases hs : sizesB f
    · have H : Hid (1 = shapeErr f m0 m1) := by show _ = _; unfold shapeErr; rw [hm, if_neg (by simp), if_pos hs]
      go_enter Try.func35, Try.ntmps35
      go_wp2_with fail
      rw [← HW.out]
      refine (checkMachine_is _ _ 0 hm _).mono ?_
      rintro e w3 ⟨rfl, hb3⟩
      have hz3 := hb3.size
      obtain ⟨lF, f0, f1⟩ := HF.below hb3 HF.1
      have hbw3 : Below w.heap.size w w3 := hbw2.trans (hb3.mono hbw2.size)
      go_wp2_with fail
      refine (sizesFit_is f _ _ _ false hs (hv.below hbw3 fun _ _ h => h) (hb.below hbw3 (RBlk.below hbw3))).mono ?_
      rintro e w4 ⟨rfl, hb4⟩
      go_wp2
      go_ret
      exact ⟨ret_int H.out, hbw3.trans (hb4.mono hbw3.size)⟩
    · obtain ⟨hnb, hnb16, hnv, hfar⟩ := sizesB_true hs
      go_enter Try.func35, Try.ntmps35
      go_wp2_with fail
      rw [← HW.out]
      refine (checkMachine_is _ _ 0 hm _).mono ?_
      rintro e w3 ⟨rfl, hb3⟩
      have hz3 := hb3.size
      have hbr3 : Below (w.heap.size + 1 + 1) W2 w3 := hb3.mono (by rw [HZ.out]; exact Nat.le_refl _)
      have hbw3 : Below w.heap.size w w3 := hbw2.trans (hb3.mono hbw2.size)
      obtain ⟨lF, f0, f1⟩ := HF.below hb3 HF.1
      go_wp2_with fail
      refine (sizesFit_is f _ _ _ true hs (hv.below hbw3 fun _ _ h => h) (hb.below hbw3 (RBlk.below hbw3))).mono ?_
      rintro e w4 ⟨rfl, hb4⟩
      have hz4 := hb4.size
      have hbr4 : Below (w.heap.size + 1 + 1) W2 w4 := hbr3.trans (hb4.mono (by have := HZ.out; omega))
      have hbw4 : Below w.heap.size w w4 := hbw3.trans (hb4.mono hbw3.size)
      clear f0 f1 hb3 hb4
      obtain ⟨lF, f0, f1⟩ := HF.below hbr4 (by omega)
      go_wp2
      go_loop [23] (fun i => ∃ k : Nat, k ≤ f.values.length ∧ i = .int .i64 k ∧ Hid ((f.values.take k).all isClassB = true)) (fun i => f.values.length - (intOf i).toNat)
      case atStart => exact ⟨0, Nat.zero_le _, rfl, rfl⟩
      case round =>
        obtain ⟨k, hk, rfl, HA⟩ := hrel
        by_cases hlt : k < f.values.length
        · obtain ⟨ba, offa, rfl, hba, a0⟩ := int_cell (hv.below hbw4 fun _ _ h => h) k hlt
          cases hcl : isClassB f.values[k]
          · have H : Hid (17 = shapeErr f m0 m1) := by show _ = _; unfold shapeErr; rw [hm, if_neg (by simp), if_neg (by simp [hs]), if_pos (all_not _ _ _ hlt hcl)]
            clear HA
            go_wp2_with (go_at_call 45; refine (isClass_is _ false hcl _).mono ?_; rintro e w' ⟨rfl, rfl⟩)
            go_ret
            exact ⟨ret_int H.out, hbw4⟩
          · have H : Hid ((f.values.take (k + 1)).all isClassB = true) := all_snoc _ _ _ hlt HA.out hcl
            clear HA
            go_wp2_with (go_at_call 45; refine (isClass_is _ true hcl _).mono ?_; rintro e w' ⟨rfl, rfl⟩)
            go_round
            case rel => exact ⟨k + 1, by omega, by go_num, H⟩
            case measure => simp [intOf]; omega
        · have hcl : f.values.all isClassB = true := all_done _ _ k (by omega) HA.out
          have hcls := classes_of hcl
          clear HA
          obtain ⟨b3, off3, cs, rfl, hcl3, ⟨vp, vi, ve, rfl, hp, _, _⟩, hc⟩ := (hb.below hbw4 (RBlk.below hbw4)).at 0 hnb
          obtain ⟨ap, cp, rfl, lp⟩ := hp.out
          have c0 := hc 0 (by simp)
          simp at c0
          have efp : firstParams f = f.blocks[0].params.length := firstParams_eq f hnb
          clear hc hcl3
          have nb0 : (0 : Int) < (f.blocks.length : Int) := by omega
          by_cases hp0 : 0 < firstParams f
          · have H : Hid (4 = shapeErr f m0 m1) := by show _ = _; unfold shapeErr; rw [hm, if_neg (by simp), if_neg (by simp [hs]), if_neg (by simp [hcl]), if_pos hp0]
            have g0 : (0 : Int) < (f.blocks[0].params.length : Int) := by omega
            clear efp
            go_wp2
            go_ret
            exact ⟨ret_int H.out, hbw4⟩
          · have g0 : ¬ (0 : Int) < (f.blocks[0].params.length : Int) := by omega
            have g0' : decide ((0 : Int) < (f.blocks[0].params.length : Int)) = false := by simpa using g0
            obtain ⟨lM, e0, e1⟩ := HM.below hbr4 (by omega)
            clear efp
            have LF := old_cell w.heap.size
            obtain ⟨W5, hW5⟩ : ∃ W5, W5 = w4.alloc (.cells #[.slice av f.values.length cv, .slice (some ⟨b3, off3, none⟩) f.blocks.length cb, .int .i64 m0, .int .i64 m1] 106) := ⟨_, rfl⟩
            have hbw5 : Below w.heap.size w W5 := by rw [hW5]; exact hbw4.alloc hbw4.size _
            obtain ⟨cB, hcB⟩ : ∃ cB, cB = w4.heap.size := ⟨_, rfl⟩
            have HC5 : ChkAt W5 cB (.slice av f.values.length cv) (.slice (some ⟨b3, off3, none⟩) f.blocks.length cb) m0 m1 := by rw [hW5, hcB]; exact ⟨by simp, by simp, by simp, by simp, by simp⟩
            have HW5 : Hid (W5 = w4.alloc (.cells #[.slice av f.values.length cv, .slice (some ⟨b3, off3, none⟩) f.blocks.length cb, .int .i64 m0, .int .i64 m1] 106)) := hW5
            have HcB : Hid (cB = w4.heap.size) := hcB
            clear hW5 hcB
            go_wp2
            rw [← HcB.out, ← HW5.out]
            go_loopw [44] (fun i wr => ∃ k : Nat, k ≤ f.blocks.length ∧ i = .int .i64 k ∧ Below w.heap.size w wr ∧ ChkAt wr cB (.slice av f.values.length cv) (.slice (some ⟨b3, off3, none⟩) f.blocks.length cb) m0 m1 ∧ Hid (firstE (blockErr f.values f.blocks m0 m1) (f.blocks.drop k) = firstE (blockErr f.values f.blocks m0 m1) f.blocks)) (fun i _ => f.blocks.length - (intOf i).toNat)
            case atStart => exact ⟨0, Nat.zero_le _, rfl, hbw5, HC5, rfl⟩
            case round =>
              clear c0 e0 e1 f0 f1 LF hlt
              obtain ⟨k, hk2, rfl, hbwr, HC, HK⟩ := hrel
              by_cases hlt : k < f.blocks.length
              · skip
                obtain ⟨b5, off5, cs, hab5, hcl5, ⟨vp, vi, ve, rfl, hp, hi, he0⟩, hc⟩ := (hb.below hbwr (RBlk.below hbwr)).at k hlt
                obtain ⟨ap, cp, rfl, lp⟩ := hp.out
                obtain ⟨ai, ci, rfl, li⟩ := hi.out
                obtain ⟨ae, ce, rfl, le⟩ := he0.out
                have c0 := hc 0 (by simp)
                have c1 := hc 1 (by simp)
                have c2 := hc 2 (by simp)
                simp at c0 c1 c2
                clear hc hcl5
                simp only [Option.some.injEq, Addr.mk.injEq] at hab5
                obtain ⟨rfl, rfl, _⟩ := hab5
                obtain ⟨_, g0, g1, g2, g3⟩ := id HC
                have LC := old_cell cB
                have lc : cB < wr.heap.size := HC.1
                have hba0 : Below wr.heap.size wr (wr.alloc (.cells #[.slice ap f.blocks[k].params.length cp, .slice ai f.blocks[k].instrs.length ci, .slice ae f.blocks[k].edges.length ce] 40)) := (Below.refl _ _).alloc (Nat.le_refl _) _
                have hv2 := (hv.below hbwr fun _ _ h => h).below hba0 fun _ _ h => h
                have hb2 := (hb.below hbwr (RBlk.below hbwr)).below hba0 (RBlk.below hba0)
                have hi2 := hi.below hba0 (RIns.below hba0)
                have he2 := he0.below hba0 (REdg.below hba0)
                by_cases he : blockErr f.values f.blocks m0 m1 f.blocks[k] = 0
                · have H : Hid (firstE (blockErr f.values f.blocks m0 m1) (f.blocks.drop (k + 1)) = firstE (blockErr f.values f.blocks m0 m1) f.blocks) := (firstE_drop0 _ _ _ hlt he).trans HK.out
                  clear HK
                  go_wp2_with (go_at_call 46; refine (block_is f.values _ _ f.blocks _ _ _ _ f.blocks[k] _ _ _ _ _ _ 0 he hv2 hb2 hi2 he2 hcls).mono ?_; rintro e w2 ⟨rfl, hb3⟩)
                  have hz2 := hb3.size
                  simp at hz2
                  go_roundw
                  case rel => exact ⟨k + 1, by omega, by go_num, (hbwr.alloc (by have := hbwr.size; omega) _).trans (hb3.mono (by have := hbwr.size; simp; omega)), (HC.below (B := wr.heap.size) hba0 HC.1).below hb3 (by simp; omega), H⟩
                  case measure => simp [intOf]; omega
                · have hE : shapeErr f m0 m1 = blockErr f.values f.blocks m0 m1 f.blocks[k] := by
                    unfold shapeErr
                    rw [hm, if_neg (by simp), if_neg (by simp [hs]), if_neg (by simp [hcl]), if_neg hp0, HK.out.symm.trans (firstE_drop1 _ _ _ hlt he), if_pos he]
                  have ⟨er, her⟩ : ∃ er, blockErr f.values f.blocks m0 m1 f.blocks[k] = er := ⟨_, rfl⟩
                  rw [her] at hE he
                  have H : Hid (er = shapeErr f m0 m1) := hE.symm
                  have hne : (er != 0) = true := by simpa using he
                  clear HK hE he
                  go_wp2_with (go_at_call 46; refine (block_is f.values _ _ f.blocks _ _ _ _ f.blocks[k] _ _ _ _ _ _ er her hv2 hb2 hi2 he2 hcls).mono ?_; rintro e w2 ⟨rfl, hb3⟩)
                  go_ret
                  exact ⟨ret_int H.out, (hbwr.alloc (by have := hbwr.size; omega) _).trans (hb3.mono (by have := hbwr.size; simp; omega))⟩
              · have HE2 : Hid (firstE (blockErr f.values f.blocks m0 m1) f.blocks = 0) := by
                  show _ = _
                  rw [← HK.out, List.drop_of_length_le (by omega)]
                  rfl
                have ⟨er, her⟩ : ∃ er, madeErr f.values f.blocks = er := ⟨_, rfl⟩
                have H : Hid (er = shapeErr f m0 m1) := by
                  show _ = _
                  unfold shapeErr
                  rw [hm, if_neg (by simp), if_neg (by simp [hs]), if_neg (by simp [hcl]), if_neg hp0, HE2.out, if_neg (by simp), her]
                clear HK
                obtain ⟨_, g0, g1, g2, g3⟩ := id HC
                go_wp2_with (go_at_call 47; refine (madeOnce_is f.values _ _ f.blocks _ _ _ _ _ er her (hv.below hbwr fun _ _ h => h) (hb.below hbwr (RBlk.below hbwr)) (by omega) (by omega)).mono ?_; rintro e w6 ⟨rfl, hb6⟩)
                go_ret
                exact ⟨ret_int H.out, hbwr.trans (hb6.mono hbwr.size)⟩
  · have H : Hid (machErr m0 m1 = shapeErr f m0 m1) := by show _ = _; unfold shapeErr; rw [if_pos hm]
    have ⟨er, her⟩ : ∃ er, machErr m0 m1 = er := ⟨_, rfl⟩
    rw [her] at hm H
    have hne : (er != 0) = true := by simpa using hm
    go_enter Try.func35, Try.ntmps35
    go_wp2_with fail
    rw [← HW.out]
    refine (checkMachine_is _ _ er her _).mono ?_
    rintro e w3 ⟨rfl, hb3⟩
    go_wp2
    go_ret
    exact ⟨ret_int H.out, hbw2.trans (hb3.mono hbw2.size)⟩
end Go.Proofs.Ytglfpnnfcpnmoaa
namespace Go.Proofs.Ytglfpnnfcpnmoaa
open Go.RowKit
set_option linter.unusedVariables false

theorem machine_any (a b : Int) (w : World) (ha : -9223372036854775808 ≤ a) (ha' : a ≤ 9223372036854775807) (hb : -9223372036854775808 ≤ b) (hb' : b ≤ 9223372036854775807) :
    Calls Try.prog 5 #[.int .i64 a, .int .i64 b] w fun e w' => e = .returned (.agg #[.int .i64 (2 + pickedOf a 9), .int .i64 (2 + pickedOf b 9)]) ∧ Below w.heap.size w w' := by
  obtain ⟨p0, p0'⟩ := pickedOf_bd a 9 (by omega)
  obtain ⟨p1, p1'⟩ := pickedOf_bd b 9 (by omega)
  go_enter Try.func5, Try.ntmps5
  go_wp2_with (go_at_call 12; refine (picked_any _ _ _ (by omega) (by omega) (by omega) (by omega)).mono ?_; rintro e w' ⟨rfl, rfl⟩)
  exact bodyPost_ret (v := .agg #[.int .i64 (2 + pickedOf a 9), .int .i64 (2 + pickedOf b 9)]) (by simp [results, Try.results5, go_sem]) rfl ⟨rfl, (Below.refl _ _).alloc (Nat.le_refl _) _⟩

theorem picked_is (n many r : Int) (w : World) (h : pickedOf n many = r) (hn : -9223372036854775808 ≤ n) (hn' : n ≤ 9223372036854775807) (h0 : 0 < many) (h1 : many ≤ 4611686018427387904) :
    Calls Try.prog 12 #[.int .i64 n, .int .i64 many] w fun e w' => e = .returned (.int .i64 r) ∧ w' = w := by
  rw [← h]; exact picked_any n many w hn hn' h0 h1

theorem SlOf_nil {α : Type} (w : World) (k : Nat) (R : List Value → α → Prop) (a : Option Addr) (cap : Nat) : SlOf w k R (.slice a 0 cap) [] := ⟨a, cap, rfl, by simp [longest], Or.inl rfl⟩
theorem SlOf_one {α : Type} {w : World} {k : Nat} {R : List Value → α → Prop} {b off cap : Nat} {x : α} (cs : List Value) (hk : cs.length = k) (hR : R cs x) (hc : ∀ j (hj : j < cs.length), w.cell? ⟨b, off + j, none⟩ = some cs[j]) : SlOf w k R (.slice (some ⟨b, off, none⟩) 1 cap) [x] := by
  refine ⟨_, cap, rfl, by simp [longest], Or.inr ⟨b, off, rfl, fun i hi => ?_⟩⟩
  have e : i = 0 := by simp at hi; omega
  subst e
  exact ⟨cs, hk, hR, fun j hj => by simpa using hc j hj⟩
theorem SlOf_two {α : Type} {w : World} {k : Nat} {R : List Value → α → Prop} {b off cap : Nat} {x y : α} (cs ds : List Value) (hk : cs.length = k) (hk' : ds.length = k) (hR : R cs x) (hR' : R ds y) (hc : ∀ j (hj : j < cs.length), w.cell? ⟨b, off + j, none⟩ = some cs[j]) (hd : ∀ j (hj : j < ds.length), w.cell? ⟨b, off + k + j, none⟩ = some ds[j]) : SlOf w k R (.slice (some ⟨b, off, none⟩) 2 cap) [x, y] := by
  refine ⟨_, cap, rfl, by simp [longest], Or.inr ⟨b, off, rfl, fun i hi => ?_⟩⟩
  have e : i = 0 ∨ i = 1 := by simp at hi; omega
  rcases e with rfl | rfl
  · exact ⟨cs, hk, hR, fun j hj => by simpa using hc j hj⟩
  · exact ⟨ds, hk', hR', fun j hj => by simpa using hd j hj⟩
theorem cells1 {w : World} {b off : Nat} {c0 : Value} (h0 : w.cell? ⟨b, off, none⟩ = some c0) : ∀ j (hj : j < [c0].length), w.cell? ⟨b, off + j, none⟩ = some [c0][j] := by
  intro j hj
  match j, hj with
  | 0, _ => exact h0
theorem cells2 {w : World} {b off : Nat} {c0 c1 : Value} (h0 : w.cell? ⟨b, off, none⟩ = some c0) (h1 : w.cell? ⟨b, off + 1, none⟩ = some c1) : ∀ j (hj : j < [c0, c1].length), w.cell? ⟨b, off + j, none⟩ = some [c0, c1][j] := by
  intro j hj
  match j, hj with
  | 0, _ => exact h0
  | 1, _ => exact h1
theorem cells3 {w : World} {b off : Nat} {c0 c1 c2 : Value} (h0 : w.cell? ⟨b, off, none⟩ = some c0) (h1 : w.cell? ⟨b, off + 1, none⟩ = some c1) (h2 : w.cell? ⟨b, off + 2, none⟩ = some c2) : ∀ j (hj : j < [c0, c1, c2].length), w.cell? ⟨b, off + j, none⟩ = some [c0, c1, c2][j] := by
  intro j hj
  match j, hj with
  | 0, _ => exact h0
  | 1, _ => exact h1
  | 2, _ => exact h2
theorem cells5 {w : World} {b off : Nat} {c0 c1 c2 c3 c4 : Value} (h0 : w.cell? ⟨b, off, none⟩ = some c0) (h1 : w.cell? ⟨b, off + 1, none⟩ = some c1) (h2 : w.cell? ⟨b, off + 2, none⟩ = some c2) (h3 : w.cell? ⟨b, off + 3, none⟩ = some c3) (h4 : w.cell? ⟨b, off + 4, none⟩ = some c4) : ∀ j (hj : j < [c0, c1, c2, c3, c4].length), w.cell? ⟨b, off + j, none⟩ = some [c0, c1, c2, c3, c4][j] := by
  intro j hj
  match j, hj with
  | 0, _ => exact h0
  | 1, _ => exact h1
  | 2, _ => exact h2
  | 3, _ => exact h3
  | 4, _ => exact h4

theorem check_is (f : Fn) (m0 m1 : Int) (vv vb : Value) (w : World) (r : Int) (h : shapeErr f m0 m1 = r) (hv0 : SlOf w 1 RInt vv f.values) (hb0 : SlOf w 3 (RBlk w) vb f.blocks) :
    Calls Try.prog 35 #[.agg #[vv, vb], .agg #[.int .i64 m0, .int .i64 m1]] w fun e w' => e = .returned (.int .i64 r) ∧ Below w.heap.size w w' := by
  rw [← h]; exact check_any f m0 m1 vv vb w hv0 hb0
end Go.Proofs.Ytglfpnnfcpnmoaa
namespace Go.Proofs.Ytglfpnnfcpnmoaa
open Go.RowKit
set_option linter.unusedVariables false

theorem flat_at {α β : Type} (f : α → List β) (k : Nat) (hk : ∀ x, (f x).length = k) : ∀ (l : List α) (i j : Nat) (hi : i < l.length), j < k → (l.flatMap f)[i * k + j]? = (f l[i])[j]?
  | [], i, j, hi, _ => by simp at hi
  | x :: r, 0, j, _, hj => by
    simp only [List.flatMap_cons, Nat.zero_mul, Nat.zero_add, List.getElem_cons_zero]
    rw [List.getElem?_append_left (by rw [hk]; exact hj)]
  | x :: r, i + 1, j, hi, hj => by
    have e : (i + 1) * k + j = k + (i * k + j) := by rw [Nat.succ_mul]; omega
    have h := flat_at f k hk r i j (by simpa using hi) hj
    rw [List.flatMap_cons, e, List.getElem?_append_right (by rw [hk]; omega), hk, Nat.add_sub_cancel_left, h]
    rfl
theorem flat_length {α β : Type} (f : α → List β) (k : Nat) (hk : ∀ x, (f x).length = k) : ∀ (l : List α), (l.flatMap f).length = l.length * k
  | [] => by simp
  | x :: r => by
    have h := flat_length f k hk r
    rw [List.flatMap_cons, List.length_append, hk, h, List.length_cons, Nat.succ_mul]
    omega

/-- What owns the cells of a list reads as that list. -/
theorem own_sl {α : Type} {w : World} {base e k n : Nat} {v : Value} {R : List Value → α → Prop} (f : α → List Value) (hk : ∀ x, (f x).length = k) (hk0 : 0 < k) (hR : ∀ x, R (f x) x) (l : List α) (h : w.ownsRow base e k v n (l.flatMap f)) (hn : n ≤ longest) : SlOf w k R v l := by
  obtain ⟨hlen, h⟩ := h
  rw [flat_length f k hk] at hlen
  have hl : l.length = n := Nat.eq_of_mul_eq_mul_right hk0 hlen
  rcases h with ⟨rfl, rfl⟩ | ⟨g, cap, cur, rfl, hb, hg, hnc, hc, hcs, htake⟩
  · refine ⟨none, 0, by rw [hl], by rw [hl]; exact hn, Or.inl (List.length_eq_zero_iff.1 hl)⟩
  · refine ⟨_, cap, by rw [hl], by rw [hl]; exact hn, Or.inr ⟨g, 0, rfl, fun i hi => ⟨f l[i], hk _, hR _, fun j hj => ?_⟩⟩⟩
    rw [hk] at hj
    have h1 := flat_at f k hk l i j hi hj
    rw [← htake, List.getElem?_take] at h1
    have hlt : i * k + j < n * k := by
      have : (i + 1) * k ≤ n * k := Nat.mul_le_mul_right k (by omega)
      rw [Nat.succ_mul] at this
      omega
    have h2 : (f l[i])[j]? = some (f l[i])[j] := List.getElem?_eq_getElem (by rw [hk]; exact hj)
    rw [if_pos hlt, h2] at h1
    simp only [World.cell?, hg, Nat.zero_add]
    simpa using h1
/-- It is kept where its block is. -/
theorem own_keep {w w' : World} {base e k n : Nat} {v : Value} {xs : List Value} (h : w.ownsRow base e k v n xs) (hb : ∀ g, v.ownBlock = some g → base ≤ g → g < w.heap.size → w'.heap[g]? = w.heap[g]?) : w'.ownsRow base e k v n xs := by
  obtain ⟨hlen, h⟩ := h
  refine ⟨hlen, ?_⟩
  rcases h with h | ⟨g, cap, cur, rfl, hbg, hg, rest⟩
  · exact Or.inl h
  · have hlt : g < w.heap.size := by
      rcases Nat.lt_or_ge g w.heap.size with h1 | h1
      · exact h1
      · rw [Array.getElem?_eq_none h1] at hg; cases hg
    exact Or.inr ⟨g, cap, cur, rfl, hbg, by rw [hb g rfl hbg hlt]; exact hg, rest⟩
theorem own_base {w : World} {base e k n g : Nat} {v : Value} {xs : List Value} (h : w.ownsRow base e k v n xs) (hg : v.ownBlock = some g) : base ≤ g ∧ g < w.heap.size := by
  rcases h.2 with ⟨rfl, _⟩ | ⟨g', cap, cur, rfl, hb, hh, _⟩
  · simp [Value.ownBlock] at hg
  · simp [Value.ownBlock] at hg
    subst hg
    refine ⟨hb, ?_⟩
    rcases Nat.lt_or_ge g' w.heap.size with h1 | h1
    · exact h1
    · rw [Array.getElem?_eq_none h1] at hh; cases hh

def cI (n : Int) : List Value := [.int .i64 n]
def cO (o : Opr) : List Value := [.int .i64 o.kind, .int .i64 o.value, .bool o.late, .int .i64 o.limit, .int .i64 o.n]
def cR (r : Rg) : List Value := [.int .i64 r.cls, .int .i64 r.n]
theorem own_ints {w : World} {base e n : Nat} {v : Value} (l : List Int) (h : w.ownsRow base e 1 v n (l.flatMap cI)) (hn : n ≤ longest) : SlOf w 1 RInt v l := own_sl (k := 1) cI (fun _ => rfl) (by decide) (fun _ => rfl) l h hn
theorem own_oprs {w : World} {base e n : Nat} {v : Value} (l : List Opr) (h : w.ownsRow base e 5 v n (l.flatMap cO)) (hn : n ≤ longest) : SlOf w 5 ROpr v l := own_sl (k := 5) cO (fun _ => rfl) (by decide) (fun _ => rfl) l h hn
theorem own_rgs {w : World} {base e n : Nat} {v : Value} (l : List Rg) (h : w.ownsRow base e 2 v n (l.flatMap cR)) (hn : n ≤ longest) : SlOf w 2 RRg v l := own_sl (k := 2) cR (fun _ => rfl) (by decide) (fun _ => rfl) l h hn
end Go.Proofs.Ytglfpnnfcpnmoaa
