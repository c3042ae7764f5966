/-
  The contract of 'checker.block': which error a block has (P1.3 to P1.8), where the values' classes are 0 or 1.
-/
import Derived.Test.YtengmgdnpojfjaaInstr
import Derived.Test.YtengmgdnpojfjaaEdge
namespace Go.Proofs.Ytengmgdnpojfjaa
open Go.RowKit
set_option linter.unusedVariables false

def blockErr (values : List Int) (blocks : List Blk) (m0 m1 : Int) (b : Blk) : Int :=
  if firstE (instrErr values m0 m1) b.instrs ≠ 0 then firstE (instrErr values m0 m1) b.instrs
  else if 1 < b.edges.length ∧ b.instrs.length = 0 then 4
  else firstE (edgeErr values blocks) b.edges

theorem blockErr_ins (values : List Int) (blocks : List Blk) (m0 m1 : Int) (b : Blk) (e : Int) (h : firstE (instrErr values m0 m1) b.instrs = e) (he : ¬ e = 0) : blockErr values blocks m0 m1 b = e := by
  unfold blockErr
  rw [h, if_pos he]
theorem blockErr_edge (values : List Int) (blocks : List Blk) (m0 m1 : Int) (b : Blk) (e : Int) (h1 : firstE (instrErr values m0 m1) b.instrs = 0) (hm : ¬ (1 < b.edges.length ∧ b.instrs.length = 0)) (h : firstE (edgeErr values blocks) b.edges = e) : blockErr values blocks m0 m1 b = e := by
  unfold blockErr
  rw [h1, if_neg (by simp), if_neg hm, h]

theorem instr_is (values : List Int) (av : Option Addr) (cv : Nat) (vb : Value) (m0 m1 : Int) (x : Ins) (ao asp : Option Addr) (co csp : Nat) (w : World) (r : Int) (h : instrErr values m0 m1 x = r) (hv : SlOf w 1 RInt (.slice av values.length cv) values)
    (ho : SlOf w 5 ROpr (.slice ao x.operands.length co) x.operands) (hs : SlOf w 2 RRg (.slice asp x.spoils.length csp) x.spoils)
    (hcls : ∀ v, isValueB values.length v = true → classAt values v = 0 ∨ classAt values v = 1) :
    Calls Try.prog 66 #[.agg #[.slice av values.length cv, vb, .int .i64 m0, .int .i64 m1], .agg #[.int .i64 x.op, .slice ao x.operands.length co, .slice asp x.spoils.length csp]] w fun e w' => e = .returned (.int .i64 r) ∧ Below w.heap.size w w' := by
  rw [← h]; exact instr_any values av cv vb m0 m1 x ao asp co csp w hv ho hs hcls
theorem edge_is (values : List Int) (av : Option Addr) (cv : Nat) (blocks : List Blk) (ab : Option Addr) (cb : Nat) (m0 m1 : Int) (e : Edg) (aa : Option Addr) (ca : Nat) (w : World) (r : Int) (h : edgeErr values blocks e = r) (hv : SlOf w 1 RInt (.slice av values.length cv) values)
    (hbl : SlOf w 3 (RBlk w) (.slice ab blocks.length cb) blocks) (ha : SlOf w 1 RInt (.slice aa e.args.length ca) e.args) :
    Calls Try.prog 67 #[.agg #[.slice av values.length cv, .slice ab blocks.length cb, .int .i64 m0, .int .i64 m1], .agg #[.int .i64 e.block, .slice aa e.args.length ca]] w fun q w' => q = .returned (.int .i64 r) ∧ Below w.heap.size w w' := by
  rw [← h]; exact edge_any values av cv blocks ab cb m0 m1 e aa ca w hv hbl ha

set_option maxHeartbeats 8000000 in
theorem block_any (values : List Int) (av : Option Addr) (cv : Nat) (blocks : List Blk) (ab : Option Addr) (cb : Nat) (m0 m1 : Int) (b : Blk) (vp : Value) (ai ae : Option Addr) (ci ce : Nat) (w : World) (hv : SlOf w 1 RInt (.slice av values.length cv) values)
    (hbl : SlOf w 3 (RBlk w) (.slice ab blocks.length cb) blocks) (hi : SlOf w 3 (RIns w) (.slice ai b.instrs.length ci) b.instrs) (he0 : SlOf w 2 (REdg w) (.slice ae b.edges.length ce) b.edges)
    (hcls : ∀ v, isValueB values.length v = true → classAt values v = 0 ∨ classAt values v = 1) :
    Calls Try.prog 50 #[.agg #[.slice av values.length cv, .slice ab blocks.length cb, .int .i64 m0, .int .i64 m1], .agg #[vp, .slice ai b.instrs.length ci, .slice ae b.edges.length ce]] w fun e w' => e = .returned (.int .i64 (blockErr values blocks m0 m1 b)) ∧ Below w.heap.size w w' := by
  obtain ⟨_, _, _, lv⟩ := hv.out
  obtain ⟨_, _, _, lb⟩ := hbl.out
  obtain ⟨_, _, _, li⟩ := hi.out
  obtain ⟨_, _, _, le⟩ := he0.out
  unfold longest at lv lb li le
  obtain ⟨W2, hW2⟩ : ∃ W2, W2 = (w.alloc (.cells #[.slice av values.length cv, .slice ab blocks.length cb, .int .i64 m0, .int .i64 m1] 84)).alloc (.cells #[vp, .slice ai b.instrs.length ci, .slice ae b.edges.length ce] 50) := ⟨_, rfl⟩
  have hbw2 : Below w.heap.size w W2 := by rw [hW2]; exact ((Below.refl _ _).alloc (Nat.le_refl _) _).alloc (by simp) _
  have HC : ChkAt W2 w.heap.size (.slice av values.length cv) (.slice ab blocks.length cb) m0 m1 := by rw [hW2]; exact ⟨by simp; omega, by simp, by simp, by simp, by simp⟩
  have HB : BlkAt W2 (w.heap.size + 1) vp (.slice ai b.instrs.length ci) (.slice ae b.edges.length ce) := by rw [hW2]; exact ⟨by simp, by simp, by simp, by simp⟩
  have HW : Hid (W2 = (w.alloc (.cells #[.slice av values.length cv, .slice ab blocks.length cb, .int .i64 m0, .int .i64 m1] 84)).alloc (.cells #[vp, .slice ai b.instrs.length ci, .slice ae b.edges.length ce] 50)) := hW2
  clear hW2
  go_enter Try.func50, Try.ntmps50
  go_wp2
  go_loopw [14] (fun i wr => ∃ k : Nat, k ≤ b.instrs.length ∧ i = .int .i64 k ∧ Below (w.heap.size + 1 + 1) W2 wr ∧ w.heap.size + 1 < wr.heap.size ∧ Hid (firstE (instrErr values m0 m1) (b.instrs.drop k) = firstE (instrErr values m0 m1) b.instrs)) (fun i _ => b.instrs.length - (intOf i).toNat)
  case atStart => exact ⟨0, Nat.zero_le _, rfl, by rw [HW.out]; exact Below.refl _ _, by simp, rfl⟩
  case round =>
    obtain ⟨k, hk, rfl, hbr, hz, HK⟩ := hrel
    have hbwr : Below w.heap.size w wr := hbw2.trans (hbr.mono (by omega))
    by_cases hlt : k < b.instrs.length
    · skip
      obtain ⟨_, g0, g1, g2, g3⟩ := HC.below hbr (by omega)
      obtain ⟨b5, off5, cs, rfl, hcl5, ⟨vo, vs, rfl, ho, hsp⟩, hc⟩ := (hi.below hbwr (RIns.below hbwr)).at k hlt
      obtain ⟨ao, co, rfl, lo⟩ := ho.out
      obtain ⟨asp, csp, rfl, lsp⟩ := hsp.out
      have c0 := hc 0 (by simp)
      have c1 := hc 1 (by simp)
      have c2 := hc 2 (by simp)
      simp at c0 c1 c2
      clear hc hcl5
      have LC := old_cell w.heap.size
      have lc : w.heap.size < wr.heap.size := by omega
      have hba0 : Below wr.heap.size wr (wr.alloc (.cells #[.int .i64 b.instrs[k].op, .slice ao b.instrs[k].operands.length co, .slice asp b.instrs[k].spoils.length csp] 40)) := (Below.refl _ _).alloc (Nat.le_refl _) _
      have hv2 := (hv.below hbwr fun _ _ h => h).below hba0 fun _ _ h => h
      have ho2 := ho.below hba0 fun _ _ h => h
      have hs2 := hsp.below hba0 fun _ _ h => h
      by_cases he : instrErr values m0 m1 b.instrs[k] = 0
      · have H : Hid (firstE (instrErr values m0 m1) (b.instrs.drop (k + 1)) = firstE (instrErr values m0 m1) b.instrs) := (firstE_drop0 _ _ _ hlt he).trans HK.out
        clear HK
        go_wp2_with (go_at_call 66; refine (instr_is values _ _ _ _ _ b.instrs[k] _ _ _ _ _ 0 he hv2 ho2 hs2 hcls).mono ?_; rintro e w2 ⟨rfl, hb2⟩)
        have hz2 := hb2.size
        simp at hz2
        go_roundw
        case rel => exact ⟨k + 1, by omega, by go_num, (hbr.alloc (by omega) _).trans (hb2.mono (by simp; omega)), by omega, H⟩
        case measure => simp [intOf]; omega
      · have hE : blockErr values blocks m0 m1 b = instrErr values m0 m1 b.instrs[k] := blockErr_ins values blocks m0 m1 b _ ((HK.out.symm.trans (firstE_drop1 _ _ _ hlt he))) he
        have ⟨er, her⟩ : ∃ er, instrErr values m0 m1 b.instrs[k] = er := ⟨_, rfl⟩
        rw [her] at hE he
        have H : Hid (er = blockErr values blocks m0 m1 b) := hE.symm
        have hne : (er != 0) = true := by simpa using he
        clear HK hE he
        go_wp2_with (go_at_call 66; refine (instr_is values _ _ _ _ _ b.instrs[k] _ _ _ _ _ er her hv2 ho2 hs2 hcls).mono ?_; rintro e w2 ⟨rfl, hb2⟩)
        go_ret
        exact ⟨ret_int H.out, (hbwr.alloc (by omega) _).trans (hb2.mono (by simp; omega))⟩
    · have HE1 : Hid (firstE (instrErr values m0 m1) b.instrs = 0) := by
        show _ = _
        rw [← HK.out, List.drop_of_length_le (by omega)]
        rfl
      clear HK
      obtain ⟨_, t0, t1, t2⟩ := HB.below hbr (by omega)
      by_cases hm1 : 1 < b.edges.length
      · have g1 : (1 : Int) < (b.edges.length : Int) := by omega
        by_cases hm2 : b.instrs.length = 0
        · have g2 : ((b.instrs.length : Int) == 0) = true := by rw [beq_iff_eq]; omega
          have H : Hid (4 = blockErr values blocks m0 m1 b) := by show _ = _; unfold blockErr; rw [HE1.out, if_neg (by simp), if_pos ⟨hm1, hm2⟩]
          clear hm2
          go_wp2
          go_ret
          exact ⟨ret_int H.out, hbwr⟩
        · have g2 : ((b.instrs.length : Int) == 0) = false := by rw [beq_eq_false_iff_ne]; omega
          have hmany : ¬ (1 < b.edges.length ∧ b.instrs.length = 0) := fun h => hm2 h.2
          clear hm2
          go_wp2
          clear t0 t1 t2
          go_loopw [38] (fun i wr => ∃ k : Nat, k ≤ b.edges.length ∧ i = .int .i64 k ∧ Below (w.heap.size + 1 + 1) W2 wr ∧ w.heap.size + 1 < wr.heap.size ∧ Hid (firstE (edgeErr values blocks) (b.edges.drop k) = firstE (edgeErr values blocks) b.edges)) (fun i _ => b.edges.length - (intOf i).toNat)
          case atStart => exact ⟨0, Nat.zero_le _, rfl, hbr, hz, rfl⟩
          case round =>
            clear hz hbwr hbr hlt
            obtain ⟨k, hk2, rfl, hbr, hz, HK⟩ := hrel
            have hbwr : Below w.heap.size w wr := hbw2.trans (hbr.mono (by omega))
            by_cases hlt : k < b.edges.length
            · skip
              obtain ⟨_, g0, g1, g2, g3⟩ := HC.below hbr (by omega)
              obtain ⟨b5, off5, cs, rfl, hcl5, ⟨va, rfl, ha⟩, hc⟩ := (he0.below hbwr (REdg.below hbwr)).at k hlt
              obtain ⟨aa, ca, rfl, la⟩ := ha.out
              have c0 := hc 0 (by simp)
              have c1 := hc 1 (by simp)
              simp at c0 c1
              clear hc hcl5
              have LC := old_cell w.heap.size
              have lc : w.heap.size < wr.heap.size := by omega
              have hba0 : Below wr.heap.size wr (wr.alloc (.cells #[.int .i64 b.edges[k].block, .slice aa b.edges[k].args.length ca] 47)) := (Below.refl _ _).alloc (Nat.le_refl _) _
              have hv2 := (hv.below hbwr fun _ _ h => h).below hba0 fun _ _ h => h
              have hbl2 := (hbl.below hbwr (RBlk.below hbwr)).below hba0 (RBlk.below hba0)
              have ha2 := ha.below hba0 fun _ _ h => h
              by_cases he : edgeErr values blocks b.edges[k] = 0
              · have H : Hid (firstE (edgeErr values blocks) (b.edges.drop (k + 1)) = firstE (edgeErr values blocks) b.edges) := (firstE_drop0 _ _ _ hlt he).trans HK.out
                clear HK
                go_wp2_with (go_at_call 67; refine (edge_is values _ _ blocks _ _ _ _ b.edges[k] _ _ _ 0 he hv2 hbl2 ha2).mono ?_; rintro e w2 ⟨rfl, hb2⟩)
                have hz2 := hb2.size
                simp at hz2
                go_roundw
                case rel => exact ⟨k + 1, by omega, by go_num, (hbr.alloc (by omega) _).trans (hb2.mono (by simp; omega)), by omega, H⟩
                case measure => simp [intOf]; omega
              · have hE : blockErr values blocks m0 m1 b = edgeErr values blocks b.edges[k] := blockErr_edge values blocks m0 m1 b _ HE1.out hmany ((HK.out.symm.trans (firstE_drop1 _ _ _ hlt he)))
                have ⟨er, her⟩ : ∃ er, edgeErr values blocks b.edges[k] = er := ⟨_, rfl⟩
                rw [her] at hE he
                have H : Hid (er = blockErr values blocks m0 m1 b) := hE.symm
                have hne : (er != 0) = true := by simpa using he
                clear HK hE he
                go_wp2_with (go_at_call 67; refine (edge_is values _ _ blocks _ _ _ _ b.edges[k] _ _ _ er her hv2 hbl2 ha2).mono ?_; rintro e w2 ⟨rfl, hb2⟩)
                go_ret
                exact ⟨ret_int H.out, (hbwr.alloc (by omega) _).trans (hb2.mono (by simp; omega))⟩
            · have H : Hid (0 = blockErr values blocks m0 m1 b) := (blockErr_edge values blocks m0 m1 b 0 HE1.out hmany (by rw [← HK.out, List.drop_of_length_le (by omega)]; rfl)).symm
              clear HK
              go_wp2
              go_ret
              exact ⟨ret_int H.out, hbwr⟩
      · have g1 : ¬ (1 : Int) < (b.edges.length : Int) := by omega
        have g1' : decide ((1 : Int) < (b.edges.length : Int)) = false := by simpa using g1
        have hmany : ¬ (1 < b.edges.length ∧ b.instrs.length = 0) := fun h => hm1 h.1
        go_wp2
        clear t0 t1 t2
        go_loopw [38] (fun i wr => ∃ k : Nat, k ≤ b.edges.length ∧ i = .int .i64 k ∧ Below (w.heap.size + 1 + 1) W2 wr ∧ w.heap.size + 1 < wr.heap.size ∧ Hid (firstE (edgeErr values blocks) (b.edges.drop k) = firstE (edgeErr values blocks) b.edges)) (fun i _ => b.edges.length - (intOf i).toNat)
        case atStart => exact ⟨0, Nat.zero_le _, rfl, hbr, hz, rfl⟩
        case round =>
          clear hz hbwr hbr hlt
          obtain ⟨k, hk2, rfl, hbr, hz, HK⟩ := hrel
          have hbwr : Below w.heap.size w wr := hbw2.trans (hbr.mono (by omega))
          by_cases hlt : k < b.edges.length
          · skip
            obtain ⟨_, g0, g1, g2, g3⟩ := HC.below hbr (by omega)
            obtain ⟨b5, off5, cs, rfl, hcl5, ⟨va, rfl, ha⟩, hc⟩ := (he0.below hbwr (REdg.below hbwr)).at k hlt
            obtain ⟨aa, ca, rfl, la⟩ := ha.out
            have c0 := hc 0 (by simp)
            have c1 := hc 1 (by simp)
            simp at c0 c1
            clear hc hcl5
            have LC := old_cell w.heap.size
            have lc : w.heap.size < wr.heap.size := by omega
            have hba0 : Below wr.heap.size wr (wr.alloc (.cells #[.int .i64 b.edges[k].block, .slice aa b.edges[k].args.length ca] 47)) := (Below.refl _ _).alloc (Nat.le_refl _) _
            have hv2 := (hv.below hbwr fun _ _ h => h).below hba0 fun _ _ h => h
            have hbl2 := (hbl.below hbwr (RBlk.below hbwr)).below hba0 (RBlk.below hba0)
            have ha2 := ha.below hba0 fun _ _ h => h
            by_cases he : edgeErr values blocks b.edges[k] = 0
            · have H : Hid (firstE (edgeErr values blocks) (b.edges.drop (k + 1)) = firstE (edgeErr values blocks) b.edges) := (firstE_drop0 _ _ _ hlt he).trans HK.out
              clear HK
              go_wp2_with (go_at_call 67; refine (edge_is values _ _ blocks _ _ _ _ b.edges[k] _ _ _ 0 he hv2 hbl2 ha2).mono ?_; rintro e w2 ⟨rfl, hb2⟩)
              have hz2 := hb2.size
              simp at hz2
              go_roundw
              case rel => exact ⟨k + 1, by omega, by go_num, (hbr.alloc (by omega) _).trans (hb2.mono (by simp; omega)), by omega, H⟩
              case measure => simp [intOf]; omega
            · have hE : blockErr values blocks m0 m1 b = edgeErr values blocks b.edges[k] := blockErr_edge values blocks m0 m1 b _ HE1.out hmany ((HK.out.symm.trans (firstE_drop1 _ _ _ hlt he)))
              have ⟨er, her⟩ : ∃ er, edgeErr values blocks b.edges[k] = er := ⟨_, rfl⟩
              rw [her] at hE he
              have H : Hid (er = blockErr values blocks m0 m1 b) := hE.symm
              have hne : (er != 0) = true := by simpa using he
              clear HK hE he
              go_wp2_with (go_at_call 67; refine (edge_is values _ _ blocks _ _ _ _ b.edges[k] _ _ _ er her hv2 hbl2 ha2).mono ?_; rintro e w2 ⟨rfl, hb2⟩)
              go_ret
              exact ⟨ret_int H.out, (hbwr.alloc (by omega) _).trans (hb2.mono (by simp; omega))⟩
          · have H : Hid (0 = blockErr values blocks m0 m1 b) := (blockErr_edge values blocks m0 m1 b 0 HE1.out hmany (by rw [← HK.out, List.drop_of_length_le (by omega)]; rfl)).symm
            clear HK
            go_wp2
            go_ret
            exact ⟨ret_int H.out, hbwr⟩
end Go.Proofs.Ytengmgdnpojfjaa
