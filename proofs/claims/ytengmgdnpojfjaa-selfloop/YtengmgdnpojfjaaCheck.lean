/-
  The contract of 'shape.Check': which error a function has for a machine (P1.2 to P1.9), for whatever function and machine.
-/
import Derived.Test.YtengmgdnpojfjaaBlock
import Derived.Test.YtengmgdnpojfjaaOnce
import Derived.Test.YtengmgdnpojfjaaFits
namespace Go.Proofs.Ytengmgdnpojfjaa
open Go.RowKit
set_option linter.unusedVariables false

def firstParams (f : Fn) : Nat := match f.blocks with
  | [] => 0
  | b :: _ => b.params.length
def shapeErr (f : Fn) (m0 m1 : Int) : Int :=
  if machErr m0 m1 ≠ 0 then machErr m0 m1
  else if sizesB f = false then 1
  else if f.values.all isClassB = false then 17
  else if 0 < firstParams f then 4
  else if firstE (blockErr f.values f.blocks m0 m1) f.blocks ≠ 0 then firstE (blockErr f.values f.blocks m0 m1) f.blocks
  else madeErr f.values f.blocks

theorem firstParams_eq (f : Fn) (h : 0 < f.blocks.length) : firstParams f = f.blocks[0].params.length := by
  obtain ⟨vs, bs⟩ := f
  cases bs with
  | nil => simp at h
  | cons b r => rfl

theorem checkMachine_is (x y r : Int) (h : machErr x y = r) (w : World) :
    Calls Try.prog 47 #[.agg #[.int .i64 x, .int .i64 y]] w fun e w' => e = .returned (.int .i64 r) ∧ Below w.heap.size w w' := by
  rw [← h]; exact checkMachine_any x y w
theorem sizesFit_is (f : Fn) (vv vb : Value) (w : World) (r : Bool) (h : sizesB f = r) (hv : SlOf w 1 RInt vv f.values) (hb : SlOf w 3 (RBlk w) vb f.blocks) :
    Calls Try.prog 48 #[.agg #[vv, vb]] w fun e w' => e = .returned (.bool r) ∧ Below w.heap.size w w' := by
  rw [← h]; exact sizesFit_any f vv vb w hv hb
theorem block_is (values : List Int) (av : Option Addr) (cv : Nat) (blocks : List Blk) (ab : Option Addr) (cb : Nat) (m0 m1 : Int) (b : Blk) (vp : Value) (ai ae : Option Addr) (ci ce : Nat) (w : World) (r : Int) (h : blockErr values blocks m0 m1 b = r) (hv : SlOf w 1 RInt (.slice av values.length cv) values)
    (hbl : SlOf w 3 (RBlk w) (.slice ab blocks.length cb) blocks) (hi : SlOf w 3 (RIns w) (.slice ai b.instrs.length ci) b.instrs) (he0 : SlOf w 2 (REdg w) (.slice ae b.edges.length ce) b.edges)
    (hcls : ∀ v, isValueB values.length v = true → classAt values v = 0 ∨ classAt values v = 1) :
    Calls Try.prog 50 #[.agg #[.slice av values.length cv, .slice ab blocks.length cb, .int .i64 m0, .int .i64 m1], .agg #[vp, .slice ai b.instrs.length ci, .slice ae b.edges.length ce]] w fun e w' => e = .returned (.int .i64 r) ∧ Below w.heap.size w w' := by
  rw [← h]; exact block_any values av cv blocks ab cb m0 m1 b vp ai ae ci ce w hv hbl hi he0 hcls
theorem madeOnce_is (values : List Int) (av : Option Addr) (cv : Nat) (blocks : List Blk) (ab : Option Addr) (cb : Nat) (m0 m1 : Int) (w : World) (r : Int) (h : madeErr values blocks = r) (hv : SlOf w 1 RInt (.slice av values.length cv) values) (hbl : SlOf w 3 (RBlk w) (.slice ab blocks.length cb) blocks) (hn : values.length ≤ 400000000) (hfar : (allM blocks).length ≤ 100000000) :
    Calls Try.prog 51 #[.agg #[.slice av values.length cv, .slice ab blocks.length cb, .int .i64 m0, .int .i64 m1]] w fun e w' => e = .returned (.int .i64 r) ∧ Below w.heap.size w w' := by
  rw [← h]; exact madeOnce_any values av cv blocks ab cb m0 m1 w hv hbl hn hfar

theorem oprM_le (l : List Opr) : (oprM l).length ≤ l.length := by
  unfold oprM
  rw [List.length_map]
  exact List.length_filter_le _ _
theorem insM_le : ∀ (l : List Ins), l.all insFits = true → (insM l).length ≤ 6 * l.length
  | [], _ => by simp [insM]
  | x :: r, h => by
    simp only [List.all_cons, Bool.and_eq_true] at h
    have h1 := insM_le r h.2
    have h2 := oprM_le x.operands
    have h3 : x.operands.length ≤ 6 := by have := h.1; simp [insFits] at this; exact this.1
    rw [insM_cons, List.length_append, List.length_cons]
    omega
theorem makersOf_le (b : Blk) (h : blkFits b = true) : (makersOf b).length ≤ 245 := by
  unfold blkFits at h
  simp only [Bool.and_eq_true, decide_eq_true_eq] at h
  have h1 := insM_le b.instrs h.2
  rw [makersOf, List.length_append]
  omega
theorem sizesGo_fits : ∀ (l : List Blk) (a : Nat), sizesGo a l = true → ∀ b ∈ l, blkFits b = true
  | [], _, _ => by simp
  | c :: r, a, h => by
    unfold sizesGo at h
    split at h
    · simp at h
    · split at h
      · rename_i h2
        intro b hb
        rcases List.mem_cons.1 hb with rfl | hb
        · exact h2
        · exact sizesGo_fits r _ h b hb
      · simp at h
theorem allM_le : ∀ (l : List Blk), (∀ b ∈ l, blkFits b = true) → (allM l).length ≤ 245 * l.length
  | [], _ => by simp [allM]
  | b :: r, h => by
    have h1 := allM_le r fun c hc => h c (List.mem_cons_of_mem _ hc)
    have h2 := makersOf_le b (h b List.mem_cons_self)
    have e : allM (b :: r) = makersOf b ++ allM r := by simp [allM]
    rw [e, List.length_append, List.length_cons]
    omega
theorem sizesB_true {f : Fn} (h : sizesB f = true) : 0 < f.blocks.length ∧ f.blocks.length ≤ 16 ∧ f.values.length ≤ 160 ∧ (allM f.blocks).length ≤ 4000 := by
  unfold sizesB at h
  by_cases hh : f.blocks.length = 0 ∨ 16 < f.blocks.length ∨ 160 < f.values.length
  · rw [if_pos hh] at h; simp at h
  · rw [if_neg hh] at h
    have := allM_le f.blocks (sizesGo_fits _ _ h)
    omega
theorem classes_of {values : List Int} (h : values.all isClassB = true) (v : Int) (hv : isValueB values.length v = true) : classAt values v = 0 ∨ classAt values v = 1 := by
  have hh : 0 ≤ v ∧ v < (values.length : Int) := by simpa [isValueB] using hv
  have hi : v.toNat < values.length := by omega
  have h1 := List.all_eq_true.1 h _ (List.getElem_mem hi)
  have e : classAt values v = values[v.toNat] := by simp [classAt, List.getD, List.getElem?_eq_getElem hi]
  rw [e]
  simp [isClassB] at h1
  omega

set_option maxHeartbeats 4000000 in
theorem check_any (f : Fn) (m0 m1 : Int) (vv vb : Value) (w : World) (hv0 : SlOf w 1 RInt vv f.values) (hb0 : SlOf w 3 (RBlk w) vb f.blocks) :
    Calls Try.prog 32 #[.agg #[vv, vb], .agg #[.int .i64 m0, .int .i64 m1]] w fun e w' => e = .returned (.int .i64 (shapeErr f m0 m1)) ∧ Below w.heap.size w w' := by
  obtain ⟨av, cv, rfl, lv⟩ := hv0.out
  obtain ⟨ab, cb, rfl, lb⟩ := hb0.out
  unfold longest at lv lb
  have hv := hv0
  have hb := hb0
  obtain ⟨W2, hW2⟩ : ∃ W2, W2 = (w.alloc (.cells #[.slice av f.values.length cv, .slice ab f.blocks.length cb] 25)).alloc (.cells #[.int .i64 m0, .int .i64 m1] 28) := ⟨_, rfl⟩
  have hbw2 : Below w.heap.size w W2 := by rw [hW2]; exact ((Below.refl _ _).alloc (Nat.le_refl _) _).alloc (by simp) _
  have HF : TwoAt W2 w.heap.size (.slice av f.values.length cv) (.slice ab f.blocks.length cb) := by rw [hW2]; exact ⟨by simp; omega, by simp, by simp⟩
  have HM : TwoAt W2 (w.heap.size + 1) (.int .i64 m0) (.int .i64 m1) := by rw [hW2]; exact ⟨by simp, by simp, by simp⟩
  have hz2 : W2.heap.size = w.heap.size + 1 + 1 := by rw [hW2]; simp
  have HW : Hid (W2 = (w.alloc (.cells #[.slice av f.values.length cv, .slice ab f.blocks.length cb] 25)).alloc (.cells #[.int .i64 m0, .int .i64 m1] 28)) := hW2
  have HZ : Hid (W2.heap.size = w.heap.size + 1 + 1) := hz2
  clear hW2 hz2
  by_cases hm : machErr m0 m1 = 0
  · cases hs : sizesB f
    · have H : Hid (1 = shapeErr f m0 m1) := by show _ = _; unfold shapeErr; rw [hm, if_neg (by simp), if_pos hs]
      go_enter Try.func32, Try.ntmps32
      go_wp2_with fail
      rw [← HW.out]
      refine (checkMachine_is _ _ 0 hm _).mono ?_
      rintro e w3 ⟨rfl, hb3⟩
      have hz3 := hb3.size
      obtain ⟨lF, f0, f1⟩ := HF.below hb3 HF.1
      have hbw3 : Below w.heap.size w w3 := hbw2.trans (hb3.mono hbw2.size)
      go_wp2_with fail
      refine (sizesFit_is f _ _ _ false hs (hv.below hbw3 fun _ _ h => h) (hb.below hbw3 (RBlk.below hbw3))).mono ?_
      rintro e w4 ⟨rfl, hb4⟩
      go_wp2
      go_ret
      exact ⟨ret_int H.out, hbw3.trans (hb4.mono hbw3.size)⟩
    · obtain ⟨hnb, hnb16, hnv, hfar⟩ := sizesB_true hs
      go_enter Try.func32, Try.ntmps32
      go_wp2_with fail
      rw [← HW.out]
      refine (checkMachine_is _ _ 0 hm _).mono ?_
      rintro e w3 ⟨rfl, hb3⟩
      have hz3 := hb3.size
      have hbr3 : Below (w.heap.size + 1 + 1) W2 w3 := hb3.mono (by rw [HZ.out]; exact Nat.le_refl _)
      have hbw3 : Below w.heap.size w w3 := hbw2.trans (hb3.mono hbw2.size)
      obtain ⟨lF, f0, f1⟩ := HF.below hb3 HF.1
      go_wp2_with fail
      refine (sizesFit_is f _ _ _ true hs (hv.below hbw3 fun _ _ h => h) (hb.below hbw3 (RBlk.below hbw3))).mono ?_
      rintro e w4 ⟨rfl, hb4⟩
      have hz4 := hb4.size
      have hbr4 : Below (w.heap.size + 1 + 1) W2 w4 := hbr3.trans (hb4.mono (by have := HZ.out; omega))
      have hbw4 : Below w.heap.size w w4 := hbw3.trans (hb4.mono hbw3.size)
      clear f0 f1 hb3 hb4
      obtain ⟨lF, f0, f1⟩ := HF.below hbr4 (by omega)
      go_wp2
      go_loop [23] (fun i => ∃ k : Nat, k ≤ f.values.length ∧ i = .int .i64 k ∧ Hid ((f.values.take k).all isClassB = true)) (fun i => f.values.length - (intOf i).toNat)
      case atStart => exact ⟨0, Nat.zero_le _, rfl, rfl⟩
      case round =>
        obtain ⟨k, hk, rfl, HA⟩ := hrel
        by_cases hlt : k < f.values.length
        · obtain ⟨ba, offa, rfl, hba, a0⟩ := int_cell (hv.below hbw4 fun _ _ h => h) k hlt
          cases hcl : isClassB f.values[k]
          · have H : Hid (17 = shapeErr f m0 m1) := by show _ = _; unfold shapeErr; rw [hm, if_neg (by simp), if_neg (by simp [hs]), if_pos (all_not _ _ _ hlt hcl)]
            clear HA
            go_wp2_with (go_at_call 49; refine (isClass_is _ false hcl _).mono ?_; rintro e w' ⟨rfl, rfl⟩)
            go_ret
            exact ⟨ret_int H.out, hbw4⟩
          · have H : Hid ((f.values.take (k + 1)).all isClassB = true) := all_snoc _ _ _ hlt HA.out hcl
            clear HA
            go_wp2_with (go_at_call 49; refine (isClass_is _ true hcl _).mono ?_; rintro e w' ⟨rfl, rfl⟩)
            go_round
            case rel => exact ⟨k + 1, by omega, by go_num, H⟩
            case measure => simp [intOf]; omega
        · have hcl : f.values.all isClassB = true := all_done _ _ k (by omega) HA.out
          have hcls := classes_of hcl
          clear HA
          obtain ⟨b3, off3, cs, rfl, hcl3, ⟨vp, vi, ve, rfl, hp, _, _⟩, hc⟩ := (hb.below hbw4 (RBlk.below hbw4)).at 0 hnb
          obtain ⟨ap, cp, rfl, lp⟩ := hp.out
          have c0 := hc 0 (by simp)
          simp at c0
          have efp : firstParams f = f.blocks[0].params.length := firstParams_eq f hnb
          clear hc hcl3
          have nb0 : (0 : Int) < (f.blocks.length : Int) := by omega
          by_cases hp0 : 0 < firstParams f
          · have H : Hid (4 = shapeErr f m0 m1) := by show _ = _; unfold shapeErr; rw [hm, if_neg (by simp), if_neg (by simp [hs]), if_neg (by simp [hcl]), if_pos hp0]
            have g0 : (0 : Int) < (f.blocks[0].params.length : Int) := by omega
            clear efp
            go_wp2
            go_ret
            exact ⟨ret_int H.out, hbw4⟩
          · have g0 : ¬ (0 : Int) < (f.blocks[0].params.length : Int) := by omega
            have g0' : decide ((0 : Int) < (f.blocks[0].params.length : Int)) = false := by simpa using g0
            obtain ⟨lM, e0, e1⟩ := HM.below hbr4 (by omega)
            clear efp
            have LF := old_cell w.heap.size
            obtain ⟨W5, hW5⟩ : ∃ W5, W5 = w4.alloc (.cells #[.slice av f.values.length cv, .slice (some ⟨b3, off3, none⟩) f.blocks.length cb, .int .i64 m0, .int .i64 m1] 84) := ⟨_, rfl⟩
            have hbw5 : Below w.heap.size w W5 := by rw [hW5]; exact hbw4.alloc hbw4.size _
            obtain ⟨cB, hcB⟩ : ∃ cB, cB = w4.heap.size := ⟨_, rfl⟩
            have HC5 : ChkAt W5 cB (.slice av f.values.length cv) (.slice (some ⟨b3, off3, none⟩) f.blocks.length cb) m0 m1 := by rw [hW5, hcB]; exact ⟨by simp, by simp, by simp, by simp, by simp⟩
            have HW5 : Hid (W5 = w4.alloc (.cells #[.slice av f.values.length cv, .slice (some ⟨b3, off3, none⟩) f.blocks.length cb, .int .i64 m0, .int .i64 m1] 84)) := hW5
            have HcB : Hid (cB = w4.heap.size) := hcB
            clear hW5 hcB
            go_wp2
            rw [← HcB.out, ← HW5.out]
            go_loopw [44] (fun i wr => ∃ k : Nat, k ≤ f.blocks.length ∧ i = .int .i64 k ∧ Below w.heap.size w wr ∧ ChkAt wr cB (.slice av f.values.length cv) (.slice (some ⟨b3, off3, none⟩) f.blocks.length cb) m0 m1 ∧ Hid (firstE (blockErr f.values f.blocks m0 m1) (f.blocks.drop k) = firstE (blockErr f.values f.blocks m0 m1) f.blocks)) (fun i _ => f.blocks.length - (intOf i).toNat)
            case atStart => exact ⟨0, Nat.zero_le _, rfl, hbw5, HC5, rfl⟩
            case round =>
              clear c0 e0 e1 f0 f1 LF hlt
              obtain ⟨k, hk2, rfl, hbwr, HC, HK⟩ := hrel
              by_cases hlt : k < f.blocks.length
              · skip
                obtain ⟨b5, off5, cs, hab5, hcl5, ⟨vp, vi, ve, rfl, hp, hi, he0⟩, hc⟩ := (hb.below hbwr (RBlk.below hbwr)).at k hlt
                obtain ⟨ap, cp, rfl, lp⟩ := hp.out
                obtain ⟨ai, ci, rfl, li⟩ := hi.out
                obtain ⟨ae, ce, rfl, le⟩ := he0.out
                have c0 := hc 0 (by simp)
                have c1 := hc 1 (by simp)
                have c2 := hc 2 (by simp)
                simp at c0 c1 c2
                clear hc hcl5
                simp only [Option.some.injEq, Addr.mk.injEq] at hab5
                obtain ⟨rfl, rfl, _⟩ := hab5
                obtain ⟨_, g0, g1, g2, g3⟩ := id HC
                have LC := old_cell cB
                have lc : cB < wr.heap.size := HC.1
                have hba0 : Below wr.heap.size wr (wr.alloc (.cells #[.slice ap f.blocks[k].params.length cp, .slice ai f.blocks[k].instrs.length ci, .slice ae f.blocks[k].edges.length ce] 50)) := (Below.refl _ _).alloc (Nat.le_refl _) _
                have hv2 := (hv.below hbwr fun _ _ h => h).below hba0 fun _ _ h => h
                have hb2 := (hb.below hbwr (RBlk.below hbwr)).below hba0 (RBlk.below hba0)
                have hi2 := hi.below hba0 (RIns.below hba0)
                have he2 := he0.below hba0 (REdg.below hba0)
                by_cases he : blockErr f.values f.blocks m0 m1 f.blocks[k] = 0
                · have H : Hid (firstE (blockErr f.values f.blocks m0 m1) (f.blocks.drop (k + 1)) = firstE (blockErr f.values f.blocks m0 m1) f.blocks) := (firstE_drop0 _ _ _ hlt he).trans HK.out
                  clear HK
                  go_wp2_with (go_at_call 50; refine (block_is f.values _ _ f.blocks _ _ _ _ f.blocks[k] _ _ _ _ _ _ 0 he hv2 hb2 hi2 he2 hcls).mono ?_; rintro e w2 ⟨rfl, hb3⟩)
                  have hz2 := hb3.size
                  simp at hz2
                  go_roundw
                  case rel => exact ⟨k + 1, by omega, by go_num, (hbwr.alloc (by have := hbwr.size; omega) _).trans (hb3.mono (by have := hbwr.size; simp; omega)), (HC.below (B := wr.heap.size) hba0 HC.1).below hb3 (by simp; omega), H⟩
                  case measure => simp [intOf]; omega
                · have hE : shapeErr f m0 m1 = blockErr f.values f.blocks m0 m1 f.blocks[k] := by
                    unfold shapeErr
                    rw [hm, if_neg (by simp), if_neg (by simp [hs]), if_neg (by simp [hcl]), if_neg hp0, HK.out.symm.trans (firstE_drop1 _ _ _ hlt he), if_pos he]
                  have ⟨er, her⟩ : ∃ er, blockErr f.values f.blocks m0 m1 f.blocks[k] = er := ⟨_, rfl⟩
                  rw [her] at hE he
                  have H : Hid (er = shapeErr f m0 m1) := hE.symm
                  have hne : (er != 0) = true := by simpa using he
                  clear HK hE he
                  go_wp2_with (go_at_call 50; refine (block_is f.values _ _ f.blocks _ _ _ _ f.blocks[k] _ _ _ _ _ _ er her hv2 hb2 hi2 he2 hcls).mono ?_; rintro e w2 ⟨rfl, hb3⟩)
                  go_ret
                  exact ⟨ret_int H.out, (hbwr.alloc (by have := hbwr.size; omega) _).trans (hb3.mono (by have := hbwr.size; simp; omega))⟩
              · have HE2 : Hid (firstE (blockErr f.values f.blocks m0 m1) f.blocks = 0) := by
                  show _ = _
                  rw [← HK.out, List.drop_of_length_le (by omega)]
                  rfl
                have ⟨er, her⟩ : ∃ er, madeErr f.values f.blocks = er := ⟨_, rfl⟩
                have H : Hid (er = shapeErr f m0 m1) := by
                  show _ = _
                  unfold shapeErr
                  rw [hm, if_neg (by simp), if_neg (by simp [hs]), if_neg (by simp [hcl]), if_neg hp0, HE2.out, if_neg (by simp), her]
                clear HK
                obtain ⟨_, g0, g1, g2, g3⟩ := id HC
                go_wp2_with (go_at_call 51; refine (madeOnce_is f.values _ _ f.blocks _ _ _ _ _ er her (hv.below hbwr fun _ _ h => h) (hb.below hbwr (RBlk.below hbwr)) (by omega) (by omega)).mono ?_; rintro e w6 ⟨rfl, hb6⟩)
                go_ret
                exact ⟨ret_int H.out, hbwr.trans (hb6.mono hbwr.size)⟩
  · have H : Hid (machErr m0 m1 = shapeErr f m0 m1) := by show _ = _; unfold shapeErr; rw [if_pos hm]
    have ⟨er, her⟩ : ∃ er, machErr m0 m1 = er := ⟨_, rfl⟩
    rw [her] at hm H
    have hne : (er != 0) = true := by simpa using hm
    go_enter Try.func32, Try.ntmps32
    go_wp2_with fail
    rw [← HW.out]
    refine (checkMachine_is _ _ er her _).mono ?_
    rintro e w3 ⟨rfl, hb3⟩
    go_wp2
    go_ret
    exact ⟨ret_int H.out, hbw2.trans (hb3.mono hbw2.size)⟩
end Go.Proofs.Ytengmgdnpojfjaa
