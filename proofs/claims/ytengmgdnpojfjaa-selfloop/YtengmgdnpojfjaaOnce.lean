/-
  The contract of 'checker.madeOnce': whether each value is made, and none of them twice (P1.9).
-/
import Derived.Test.YtengmgdnpojfjaaMade
namespace Go.Proofs.Ytengmgdnpojfjaa
open Go.RowKit
set_option linter.unusedVariables false

def allM (blocks : List Blk) : List Int := blocks.flatMap makersOf
def madeErr (values : List Int) (blocks : List Blk) : Int :=
  if marks values.length (fun _ => false) (allM blocks) = 0 then (if (allM blocks).length < values.length then 6 else 0) else marks values.length (fun _ => false) (allM blocks)

theorem marks_append (n : Nat) : ∀ (l1 l2 : List Int) (md : Nat → Bool), marks n md (l1 ++ l2) = if marks n md l1 = 0 then marks n (l1.foldl markS md) l2 else marks n md l1
  | [], l2, md => by simp [marks]
  | v :: r, l2, md => by
    by_cases h : markE n md v = 0
    · simp only [List.cons_append, marks, if_pos h, List.foldl_cons]
      exact marks_append n r l2 _
    · simp only [List.cons_append, marks, if_neg h]
theorem MInv.nextL {B n : Nat} {av : Option Addr} {cv : Nat} {vb : Value} {m0 m1 : Int} {made : Nat → Bool} {left : Int} {L l rest : List Int} {md : Nat → Bool} {lf : Int} {wr w' : World} (h : MInv B n av cv vb m0 m1 made left L (l ++ rest) md lf wr) (he : marks n md l = 0) (hs : MarkSt w' B n av cv vb m0 m1 (l.foldl markS md) (lf - l.length)) : MInv B n av cv vb m0 m1 made left L rest (l.foldl markS md) (lf - l.length) w' := by
  obtain ⟨h1, h2, h3, h4, h5⟩ := h
  refine ⟨hs, ?_, ?_, ?_, ?_⟩
  · rw [h2, marks_append, if_pos he]
  · rw [h3, List.foldl_append]
  · simp at h4; omega
  · simp at h5; omega
theorem MInv.errL {B n : Nat} {av : Option Addr} {cv : Nat} {vb : Value} {m0 m1 : Int} {made : Nat → Bool} {left : Int} {L l rest : List Int} {md : Nat → Bool} {lf : Int} {wr : World} (h : MInv B n av cv vb m0 m1 made left L (l ++ rest) md lf wr) (he : ¬ marks n md l = 0) : marks n made L = marks n md l := by
  rw [h.2.1, marks_append, if_neg he]
theorem markBlock_is (B n : Nat) (av : Option Addr) (cv : Nat) (vb : Value) (m0 m1 : Int) (made : Nat → Bool) (left : Int) (b : Blk) (ap ai : Option Addr) (cp ci : Nat) (ve : Value) (w0 w : World) (r : Int) (hr : marks n made (makersOf b) = r) (st : MarkSt w B n av cv vb m0 m1 made left) (hl : -500000000 ≤ left) (hl' : left ≤ 500000000) (hn : n ≤ 140737488355328)
    (hw0 : Below w0.heap.size w0 w) (hwB : w0.heap.size ≤ B)
    (hp : SlOf w0 1 RInt (.slice ap b.params.length cp) b.params) (hi : SlOf w0 3 (RIns w0) (.slice ai b.instrs.length ci) b.instrs) (hfar : (makersOf b).length ≤ 100000000) :
    Calls Try.prog 70 #[.agg #[.slice ap b.params.length cp, .slice ai b.instrs.length ci, ve], (.func (.func 68) #[] #[.pointer (some ⟨B, 0, none⟩), .pointer (some ⟨B + 1 + 1, 0, none⟩), .pointer (some ⟨B + 1 + 1 + 1, 0, none⟩)])] w fun e w' => e = .returned (.int .i64 r) ∧ But (B + 1) (B + 1 + 1 + 1) w w' ∧ (r = 0 → MarkSt w' B n av cv vb m0 m1 ((makersOf b).foldl markS made) (left - (makersOf b).length)) := by
  rw [← hr]; exact markBlock_any B n av cv vb m0 m1 made left b ap ai cp ci ve w0 w st hl hl' hn hw0 hwB hp hi hfar

set_option maxHeartbeats 4000000 in
theorem madeOnce_any (values : List Int) (av : Option Addr) (cv : Nat) (blocks : List Blk) (ab : Option Addr) (cb : Nat) (m0 m1 : Int) (w : World) (hv : SlOf w 1 RInt (.slice av values.length cv) values) (hbl : SlOf w 3 (RBlk w) (.slice ab blocks.length cb) blocks) (hn : values.length ≤ 400000000) (hfar : (allM blocks).length ≤ 100000000) :
    Calls Try.prog 51 #[.agg #[.slice av values.length cv, .slice ab blocks.length cb, .int .i64 m0, .int .i64 m1]] w fun e w' => e = .returned (.int .i64 (madeErr values blocks)) ∧ Below w.heap.size w w' := by
  obtain ⟨_, _, _, lv⟩ := hv.out
  obtain ⟨_, _, _, lb⟩ := hbl.out
  unfold longest at lv lb
  have hmk := run_make_row' (P := Try.prog) 62 4 (.bool false) 1 Try.underlying62 (by kernel_rfl) rfl .i64 .i64 values.length (by omega) (by omega)
  obtain ⟨W4, hW4⟩ : ∃ W4, W4 = (((w.alloc (.cells #[.slice av values.length cv, .slice ab blocks.length cb, .int .i64 m0, .int .i64 m1] 84)).alloc (.cells (madeCells #[.bool false] values.length) 4)).alloc (.cells #[.slice (some ⟨w.heap.size + 1, 0, none⟩) values.length values.length] 62)).alloc (.cells #[.int .i64 values.length] 3) := ⟨_, rfl⟩
  have hz4 : W4.heap.size = w.heap.size + 1 + 1 + 1 + 1 := by rw [hW4]; simp
  have hbw4 : Below w.heap.size w W4 := by
    rw [hW4]
    exact ((((Below.refl _ _).alloc (Nat.le_refl _) _).alloc (by simp) _).alloc (by simp; omega) _).alloc (by simp; omega) _
  have hst : MarkSt W4 w.heap.size values.length av cv (.slice ab blocks.length cb) m0 m1 (fun _ => false) values.length := by
    rw [hW4]
    obtain ⟨V1, hV1⟩ : ∃ V1, V1 = w.alloc (.cells #[.slice av values.length cv, .slice ab blocks.length cb, .int .i64 m0, .int .i64 m1] 84) := ⟨_, rfl⟩
    have z1 : V1.heap.size = w.heap.size + 1 := by rw [hV1]; simp
    have HC : ChkAt V1 w.heap.size (.slice av values.length cv) (.slice ab blocks.length cb) m0 m1 := by rw [hV1]; exact ⟨by simp, by simp, by simp, by simp, by simp⟩
    rw [← hV1]
    clear hV1
    obtain ⟨V2, hV2⟩ : ∃ V2, V2 = V1.alloc (.cells (madeCells #[.bool false] values.length) 4) := ⟨_, rfl⟩
    have z2 : V2.heap.size = w.heap.size + 1 + 1 := by rw [hV2]; simp [z1]
    have r1 : V2.rowIs (w.heap.size + 1) 4 values.length (fun _ => .bool false) := by rw [hV2, ← z1]; exact World.rowIs_made _ _ _ _
    have HC2 : ChkAt V2 w.heap.size (.slice av values.length cv) (.slice ab blocks.length cb) m0 m1 := HC.below (w' := V2) (B := V1.heap.size) (by rw [hV2]; exact (Below.refl _ _).alloc (Nat.le_refl _) _) (by omega)
    rw [← hV2]
    clear hV2 HC
    obtain ⟨V3, hV3⟩ : ∃ V3, V3 = V2.alloc (.cells #[.slice (some ⟨w.heap.size + 1, 0, none⟩) values.length values.length] 62) := ⟨_, rfl⟩
    have z3 : V3.heap.size = w.heap.size + 1 + 1 + 1 := by rw [hV3]; simp [z2]
    have r2 : V3.rowIs (w.heap.size + 1 + 1) 62 1 (fun _ => .slice (some ⟨w.heap.size + 1, 0, none⟩) values.length values.length) := by
      rw [hV3, ← z2]
      exact World.rowIs_alloc _ _ _ _ (fun i hi => by simp at hi; subst hi; rfl)
    have r1' : V3.rowIs (w.heap.size + 1) 4 values.length (fun _ => .bool false) := by rw [hV3]; exact r1.alloc _
    have HC3 : ChkAt V3 w.heap.size (.slice av values.length cv) (.slice ab blocks.length cb) m0 m1 := HC2.below (w' := V3) (B := V2.heap.size) (by rw [hV3]; exact (Below.refl _ _).alloc (Nat.le_refl _) _) (by omega)
    rw [← hV3]
    clear hV3 HC2 r1
    refine ⟨HC3.below (B := V3.heap.size) ((Below.refl _ _).alloc (Nat.le_refl _) _) (by omega), r1'.alloc _, r2.alloc _, ?_⟩
    rw [← z3]
    exact World.rowIs_alloc _ _ _ _ (fun i hi => by simp at hi; subst hi; rfl)
  have HW : Hid (W4 = (((w.alloc (.cells #[.slice av values.length cv, .slice ab blocks.length cb, .int .i64 m0, .int .i64 m1] 84)).alloc (.cells (madeCells #[.bool false] values.length) 4)).alloc (.cells #[.slice (some ⟨w.heap.size + 1, 0, none⟩) values.length values.length] 62)).alloc (.cells #[.int .i64 values.length] 3)) := hW4
  have HZ : Hid (W4.heap.size = w.heap.size + 1 + 1 + 1 + 1) := hz4
  have hI0 : MInv w.heap.size values.length av cv (.slice ab blocks.length cb) m0 m1 (fun _ => false) values.length (allM blocks) (allM (blocks.drop 0)) (fun _ => false) values.length W4 := ⟨hst, rfl, rfl, rfl, Nat.le_refl _⟩
  have HE : Hid (madeErr values blocks = if marks values.length (fun _ => false) (allM blocks) = 0 then (if (allM blocks).length < values.length then 6 else 0) else marks values.length (fun _ => false) (allM blocks)) := rfl
  clear hW4 hz4 hst
  generalize hL : allM blocks = L at *
  clear hL
  go_enter Try.func51, Try.ntmps51
  go_wp2
  clear hmk
  go_loopw [21] (fun i wr => ∃ (k : Nat) (md : Nat → Bool) (lf : Int), k ≤ blocks.length ∧ i = .int .i64 k ∧ But (w.heap.size + 1) (w.heap.size + 1 + 1 + 1) W4 wr ∧ w.heap.size + 1 + 1 + 1 < wr.heap.size ∧ MInv w.heap.size values.length av cv (.slice ab blocks.length cb) m0 m1 (fun _ => false) values.length L (allM (blocks.drop k)) md lf wr) (fun i _ => blocks.length - (intOf i).toNat)
  case atStart => exact ⟨0, fun _ => false, values.length, Nat.zero_le _, rfl, by rw [HW.out]; exact But.refl _ _ _, by simp, by rw [← HW.out]; exact hI0⟩
  case round =>
    obtain ⟨k, md, lf, hk, rfl, hbr, hz, hI⟩ := hrel
    have hs1 := HZ.out
    have hb0 : Below w.heap.size w wr := hbw4.trans (hbr.below (by omega) (by omega) (by omega))
    have hI4 := hI.2.2.2.1
    have hI5 := hI.2.2.2.2
    by_cases hlt : k < blocks.length
    · obtain ⟨b5, off5, cs, rfl, hcl5, ⟨vp, vi, ve, rfl, hp, hi, he0⟩, hc⟩ := hbl.at k hlt
      obtain ⟨ap, cp, rfl, lp⟩ := hp.out
      obtain ⟨ai, ci, rfl, li⟩ := hi.out
      obtain ⟨ae, ce, rfl, le⟩ := he0.out
      have c0 := (hb0.cell (p := ⟨b5, off5 + k * 3 + 0, none⟩) (block_lt (hc 0 (by simp)))).trans (hc 0 (by simp))
      have c1 := (hb0.cell (p := ⟨b5, off5 + k * 3 + 1, none⟩) (block_lt (hc 1 (by simp)))).trans (hc 1 (by simp))
      have c2 := (hb0.cell (p := ⟨b5, off5 + k * 3 + 2, none⟩) (block_lt (hc 2 (by simp)))).trans (hc 2 (by simp))
      simp at c0 c1 c2
      have hI' : MInv w.heap.size values.length av cv (.slice (some ⟨b5, off5, none⟩) blocks.length cb) m0 m1 (fun _ => false) values.length L (makersOf blocks[k] ++ allM (blocks.drop (k + 1))) md lf wr := by
        have e : allM (blocks.drop k) = makersOf blocks[k] ++ allM (blocks.drop (k + 1)) := by rw [List.drop_eq_getElem_cons hlt]; exact List.flatMap_cons
        rw [← e]; exact hI
      clear hc hcl5 hs1 hI
      generalize blocks[k] = b at *
      have hba0 : Below wr.heap.size wr (wr.alloc (.cells #[.slice ap b.params.length cp, .slice ai b.instrs.length ci, .slice ae b.edges.length ce] 50)) := (Below.refl _ _).alloc (Nat.le_refl _) _
      have hstp := (hI'.below hba0).1
      have hw1 : Below w.heap.size w (wr.alloc (.cells #[.slice ap b.params.length cp, .slice ai b.instrs.length ci, .slice ae b.edges.length ce] 50)) := hb0.alloc (by omega) _
      have hlen := hI'.2.2.2.2
      have hlen2 := hI'.2.2.2.1
      simp only [List.length_append] at hlen hlen2
      by_cases he : marks values.length md (makersOf b) = 0
      · go_wp2_with (go_at_call 70; refine (markBlock_is w.heap.size values.length av cv (.slice (some ⟨b5, off5, none⟩) blocks.length cb) m0 m1 md lf b _ _ _ _ _ w _ 0 he hstp (by omega) (by omega) (by omega) hw1 (Nat.le_refl _) hp hi (by omega)).mono ?_; rintro e w2 ⟨rfl, hbut, hst⟩)
        have hz2 := hbut.size
        simp at hz2
        go_roundw
        case rel => exact ⟨k + 1, (makersOf b).foldl markS md, lf - (makersOf b).length, by omega, by go_num, (hbr.alloc _).trans hbut, by omega, hI'.nextL he (hst (by first | trivial | rfl))⟩
        case measure => simp [intOf]; omega
      · have hE := hI'.errL he
        have ⟨er, her⟩ : ∃ er, marks values.length md (makersOf b) = er := ⟨_, rfl⟩
        rw [her] at hE he
        have H : Hid (er = madeErr values blocks) := by show _ = _; rw [HE.out, if_neg (by rw [hE]; exact he), hE]
        have hne : (er != 0) = true := by simpa using he
        clear hE
        go_wp2_with (go_at_call 70; refine (markBlock_is w.heap.size values.length av cv (.slice (some ⟨b5, off5, none⟩) blocks.length cb) m0 m1 md lf b _ _ _ _ _ w _ er her hstp (by omega) (by omega) (by omega) hw1 (Nat.le_refl _) hp hi (by omega)).mono ?_; rintro e w2 ⟨rfl, hbut, hst⟩)
        go_ret
        exact ⟨ret_int H.out, hbw4.trans (((hbr.alloc _).trans hbut).below (by have := HZ.out; omega) (by omega) (by omega))⟩
    · have hI' : MInv w.heap.size values.length av cv (.slice ab blocks.length cb) m0 m1 (fun _ => false) values.length L [] md lf wr := by
        have e : allM (blocks.drop k) = [] := by rw [List.drop_of_length_le (by omega)]; rfl
        rw [← e]; exact hI
      have hm0 : marks values.length (fun _ => false) L = 0 := hI'.2.1
      have hlf : lf = (values.length : Int) - L.length := by have := hI'.2.2.2.1; simp at this; omega
      have l0 := hI'.1.2.2.2.cell (i := 0) (by omega)
      clear hI hs1 hI4 hI5
      by_cases hpos : 0 < lf
      · have H : Hid (6 = madeErr values blocks) := by show _ = _; rw [HE.out, if_pos hm0, if_pos (by omega)]
        clear hlf hm0
        go_wp2
        go_ret
        exact ⟨ret_int H.out, hb0⟩
      · have H : Hid (0 = madeErr values blocks) := by show _ = _; rw [HE.out, if_pos hm0, if_neg (by omega)]
        clear hlf hm0
        go_wp2
        go_ret
        exact ⟨ret_int H.out, hb0⟩
end Go.Proofs.Ytengmgdnpojfjaa
