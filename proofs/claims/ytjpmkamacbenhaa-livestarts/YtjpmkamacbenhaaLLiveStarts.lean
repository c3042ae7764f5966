/-
  The contracts of the reference's 'startOf' and 'StartsOf', and of 'sameInts'.
-/
import Derived.Test.YtjpmkamacbenhaaV11
import Derived.Test.YtjpmkamacbenhaaF1
import Derived.Deep.QuietTactic
import Derived.BigQuiet
namespace Go.Proofs.Ytjpmkamacbenhaa
open Go.RowKit
set_option linter.unusedVariables false

set_option maxHeartbeats 2000000 in
theorem lsame_true (l : List Int) (a b : Option Addr) (n c d : Nat) (w : World) (hn : l.length = n) (h1 : SlOf w 1 RInt (.slice a n c) l) (h2 : SlOf w 1 RInt (.slice b n d) l) :
    Calls Try.prog 11 #[.slice a n c, .slice b n d] w fun e w' => e = .returned (.bool true) ∧ Below w.heap.size w w' := by
  subst hn
  have lb : l.length ≤ longest := by
    obtain ⟨_, _, _, h⟩ := h1.out
    exact h
  unfold longest at lb
  have HA : Hid (SlOf w 1 RInt (.slice a l.length c) l) := h1
  have HB : Hid (SlOf w 1 RInt (.slice b l.length d) l) := h2
  clear h1 h2
  go_enter Try.func11, Try.ntmps11
  go_wp2_with fail
  go_loopw [5] (fun i wr => ∃ k : Nat, k ≤ l.length ∧ i = .int .i64 k ∧ Below w.heap.size w wr) (fun i _ => l.length - (intOf i).toNat)
  case atStart => exact ⟨0, Nat.zero_le _, rfl, Below.refl _ _⟩
  case round =>
    obtain ⟨k, hk, rfl, hbr⟩ := hrel
    by_cases hlt : k < l.length
    · obtain ⟨b1, o1, rfl, hb1, hc1⟩ := ints_at HA.out k (by omega) (by omega)
      obtain ⟨b2, o2, rfl, hb2, hc2⟩ := ints_at HB.out k (by omega) (by omega)
      rw [Int.toNat_natCast] at hc1 hc2
      have e1 := (hbr.cell (p := ⟨b1, o1 + k, none⟩) hb1).trans hc1
      have e2 := (hbr.cell (p := ⟨b2, o2 + k, none⟩) hb2).trans hc2
      clear hc1 hc2
      generalize l.getD k 0 = x at *
      go_wp2_with fail
      go_quiet (fail)
      go_wp2
      go_roundw
      case rel => exact ⟨k + 1, by omega, by go_num, below_drewN hbr _⟩
      case measure => simp [intOf]; omega
    · go_wp2
      go_ret
      exact ⟨rfl, hbr⟩

set_option maxHeartbeats 2000000 in
theorem startOf_any (bs : List Blk) (n nv j : Nat) (av ab : Option Addr) (cv cb : Nat) (w : World) (hbl : bs.length = n) (hs : SlOf w 3 (RBlk w) (.slice ab n cb) bs) (hn : (n + 1) * 8 ≤ 140737488355328) (hj : j ≤ n) :
    Calls Try.prog 21 #[.agg #[.slice av nv cv, .slice ab n cb], .int .i64 j] w fun e w' => e = .returned (.int .i64 (ptW (startM bs j))) ∧ Below w.heap.size w w' := by
  obtain ⟨W, hW⟩ : ∃ W, W = w.alloc (.cells #[.slice av nv cv, .slice ab n cb] 25) := ⟨_, rfl⟩
  obtain ⟨N, hN⟩ : ∃ N, w.heap.size = N := ⟨_, rfl⟩
  have hbw : Below w.heap.size w W := by rw [hW]; exact (Below.refl _ _).alloc (Nat.le_refl _) _
  have f1 : W.cell? ⟨N, 1, none⟩ = some (.slice ab n cb) := by rw [hW, ← hN]; simp
  have HW : Hid (W = w.alloc (.cells #[.slice av nv cv, .slice ab n cb] 25)) := hW
  have HN : Hid (w.heap.size = N) := hN
  have HBW : Hid (Below w.heap.size w W) := hbw
  have HL : Hid (bs.length = n) := hbl
  have HBS : Hid (SlOf W 3 (RBlk W) (.slice ab n cb) bs) := hs.below hbw (RBlk.below hbw)
  have lN : N < W.heap.size := by rw [hW, ← hN]; simp
  clear hW hN hbw hbl hs
  go_enter Try.func21, Try.ntmps21
  go_upto_region 1 with fail
  rw [← HW.out, HN.out]
  clear HW
  go_wp2_with fail
  go_loopw [6, 5] (fun i p wr => ∃ k : Nat, k ≤ j ∧ i = .int .i64 k ∧ p = .int .i64 (ptW (startM bs k)) ∧ Hid (Below W.heap.size W wr)) (fun i _ _ => j - (intOf i).toNat)
  case atStart => exact ⟨0, Nat.zero_le _, rfl, by simp [ptW, startM, wrap64], Below.refl _ _⟩
  case round =>
    obtain ⟨k, hk, rfl, rfl, HBR⟩ := hrel
    have hb0 := HBR.out
    by_cases hlt : k < j
    · have hkb : k < bs.length := by rw [HL.out]; omega
      have hkn : k < n := by omega
      obtain ⟨b5, off5, cs, rfl, hcl5, ⟨vp, vi, ve, rfl, hp, hi, he0⟩, hc⟩ := HBS.out.at k hkb
      obtain ⟨ai, ci, rfl, li⟩ := hi.out
      unfold longest at li
      have c1 := (hb0.cell (p := ⟨b5, off5 + k * 3 + 1, none⟩) (block_lt (hc 1 (by simp)))).trans (hc 1 (by simp))
      simp at c1
      have g1 := (hb0.cell (p := ⟨N, 1, none⟩) lN).trans f1
      have HSS := startM_succ bs k hkb
      have HPT : Hid (wrap64 (wrap64 (ptW (startM bs k) + 2) + 2 * (bs[k].instrs.length : Int)) = ptW (startM bs (k + 1))) := by
        show _ = _
        rw [HSS]
        unfold ptW wrap64
        omega
      have wl : IntKind.i64.wrap (2 * (bs[k].instrs.length : Int)) = 2 * (bs[k].instrs.length : Int) := by rw [IntKind.wrap_i64]; omega
      clear hc hcl5 hp hi he0 hb0 HSS
      generalize bs[k].instrs.length = ni at *
      go_wp2
      go_roundw
      case rel => exact ⟨k + 1, by omega, by go_num, by rw [← HPT.out], HBR⟩
      case measure => simp [intOf]; omega
    · have hkj : k = j := by omega
      subst hkj
      have HE : Hid (Below w.heap.size w wr) := HBW.out.trans (hb0.mono HBW.out.size)
      clear hb0 HBR
      go_wp2
      go_ret
      exact ⟨rfl, HE.out⟩

set_option maxHeartbeats 4000000 in
theorem startsOf_any (bs : List Blk) (n nv : Nat) (av ab : Option Addr) (cv cb : Nat) (w : World) (hbl : bs.length = n) (hs : SlOf w 3 (RBlk w) (.slice ab n cb) bs) (hn : (n + 1) * 8 ≤ 140737488355328) :
    Calls Try.prog 10 #[.agg #[.slice av nv cv, .slice ab n cb]] w fun e w' => ∃ a cap, e = .returned (.slice a (n + 1) cap) ∧ SlOf w' 1 RInt (.slice a (n + 1) cap) (startsW bs (n + 1)) ∧ Below w.heap.size w w' := by
  obtain ⟨i3, hi3, hz3, hz31, hz32⟩ := info_parts infoFI
  obtain ⟨N, hN⟩ : ∃ N, w.heap.size = N := ⟨_, rfl⟩
  obtain ⟨W, hW⟩ : ∃ W, W = w.alloc (.cells #[.slice av nv cv, .slice ab n cb] 25) := ⟨_, rfl⟩
  have hst : StS w N 0 (.slice av nv cv) (.slice ab n cb) (.slice none 0 0) bs W := by
    have q0 := World.rowIs_alloc w #[.slice av nv cv, .slice ab n cb] 25 (fun q => if q = 0 then .slice av nv cv else .slice ab n cb) fun i hi => by
      simp at hi
      match i, hi with | 0, _ => rfl | 1, _ => rfl
    rw [hN] at q0
    rw [hW]
    exact ⟨q0, ⟨rfl, Or.inl ⟨rfl, rfl⟩⟩, (Below.refl _ _).alloc (by omega) _⟩
  have HW : Hid (W = w.alloc (.cells #[.slice av nv cv, .slice ab n cb] 25)) := hW
  have HN : Hid (w.heap.size = N) := hN
  have HS0 : Hid (StS w N 0 (.slice av nv cv) (.slice ab n cb) (.slice none 0 0) bs W) := hst
  have HBS : Hid (SlOf w 3 (RBlk w) (.slice ab n cb) bs) := hs
  have HL : Hid (bs.length = n) := hbl
  clear hW hN hst hs hbl
  go_enter Try.func10, Try.ntmps10
  go_upto_region 1 with fail
  rw [← HW.out, HN.out]
  clear HW
  go_wp2_with fail
  go_loopw [4, 3] (fun i s wr => ∃ (k : Nat) (as' : Option Addr) (cs' : Nat), k ≤ n + 1 ∧ i = .int .i64 k ∧ s = .slice as' k cs' ∧ Hid (StS w N k (.slice av nv cv) (.slice ab n cb) (.slice as' k cs') bs wr)) (fun i _ _ => n + 1 - (intOf i).toNat)
  case atStart => exact ⟨0, _, _, Nat.zero_le _, rfl, rfl, HS0⟩
  case round =>
    clear HS0
    obtain ⟨k, as', cs', hk, rfl, rfl, HI⟩ := hrel
    have f0 : wr.cell? ⟨N, 0, none⟩ = some (.slice av nv cv) := HI.out.bx.cell (i := 0) (by omega)
    have f1 : wr.cell? ⟨N, 1, none⟩ = some (.slice ab n cb) := HI.out.bx.cell (i := 1) (by omega)
    by_cases hlt : k ≤ n
    · have hb0 : Below w.heap.size w wr := by rw [HN.out]; exact HI.out.low
      have HC := startOf_any bs n nv k av ab cv cb wr HL.out (HBS.out.below hb0 (RBlk.below hb0)) hn hlt
      have q : decide ((k : Int) ≤ (n : Int)) = true := by simp; omega
      have q' : (k : Int) ≤ (n : Int) := by omega
      clear hb0
      go_wp2_with fail
      refine HC.mono ?_
      clear HC f0 f1 q q'
      rintro e w2 ⟨rfl, hb2⟩
      have HI2 : Hid (StS w N k (.slice av nv cv) (.slice ab n cb) (.slice as' k cs') bs w2) := HI.out.below hb2
      clear hb2 HI
      have lN := HI2.out.bx.lt
      have own := HI2.out.own
      have oA := own.alloc (.cells #[.int .i64 (ptW (startM bs k))] 3)
      have hsz : N + 1 ≤ w2.heap.size := by omega
      go_wp2_with (at_builtin; go_must (refine wpList_append_lies _ rfl _ _ 22 rfl (N + 1) 3 i3 (.int .i64 0) 1 8 Try.underlying22 hi3 hz3 hz31 hz32 rfl (by omega) (.slice as' k cs') k _ (by rfl) oA ⟨w2.heap.size, 0, none⟩ 1 1 [.int .i64 (ptW (startM bs k))] (by rfl) (by rfl) ?e1 ?e2 (by omega) ?e3 ?e4 ?e5 (w2.heap.size + 1) ?e6 ?_))
      rotate_left
      any_goals (first | (exact newsF rfl) | rfl | (show Value.oneCell' _ = true; simp [Value.oneCell']) | (intro u hu; simp at hu; subst hu; rfl) | (unfold maxLen; omega) | omega | (simp; omega) | (simp; rfl) | (simp; done))
      intro g cap wb hown hgrow hat hgl
      have HP : Hid (StS w N (k + 1) (.slice av nv cv) (.slice ab n cb) (.slice (some ⟨g, 0, none⟩) (k + 1) cap) bs wb) := HI2.out.push ((Below.refl _ _).alloc (Nat.le_refl _) _) hgrow hown
      clear hown hgrow hat hgl oA own HI2
      go_wp2
      go_roundw
      case rel => exact ⟨k + 1, _, _, by omega, by go_num, rfl, HP⟩
      case measure => simp [intOf]; omega
    · have hkn : k = n + 1 := by omega
      have HE : Hid (SlOf wr 1 RInt (.slice as' k cs') (startsW bs k) ∧ Below w.heap.size w wr) := ⟨own_ints _ HI.out.own (by unfold longest; omega), by rw [HN.out]; exact HI.out.low⟩
      have q : decide ((k : Int) ≤ (n : Int)) = false := by simp; omega
      have q' : ¬ (k : Int) ≤ (n : Int) := by omega
      have HK : Hid (k = n + 1) := hkn
      clear HI hkn
      go_wp2
      go_ret
      have hE := HE.out
      rw [HK.out] at hE ⊢
      exact ⟨as', cs', rfl, hE⟩

set_option maxHeartbeats 2000000 in
theorem liveStarts_walk (f : Fn) (vv vb : Value) (w : World) (hv : SlOf w 1 RInt vv f.values) (hb : SlOf w 3 (RBlk w) vb f.blocks) (hn : f.blocks.length * 72 ≤ 140737488355328) :
    Calls Try.prog 3 #[.agg #[vv, vb]] w fun e w' => e = .returned (.bool true) ∧ Below w.heap.size w w' := by
  obtain ⟨av, cv, rfl, _⟩ := hv.out
  obtain ⟨ab, cb, rfl, _⟩ := hb.out
  obtain ⟨bs, hbs⟩ : ∃ bs, f.blocks = bs := ⟨_, rfl⟩
  obtain ⟨n, hnn⟩ : ∃ n, bs.length = n := ⟨_, rfl⟩
  rw [hbs, hnn] at hb hn ⊢
  generalize f.values.length = nv at *
  have hn8 : (n + 1) * 8 ≤ 140737488355328 := by omega
  obtain ⟨W, hW⟩ : ∃ W, W = w.alloc (.cells #[.slice av nv cv, .slice ab n cb] 25) := ⟨_, rfl⟩
  obtain ⟨N, hN⟩ : ∃ N, w.heap.size = N := ⟨_, rfl⟩
  have hbw : Below w.heap.size w W := by rw [hW]; exact (Below.refl _ _).alloc (Nat.le_refl _) _
  have f0 : W.cell? ⟨N, 0, none⟩ = some (.slice av nv cv) := by rw [hW, ← hN]; simp
  have f1 : W.cell? ⟨N, 1, none⟩ = some (.slice ab n cb) := by rw [hW, ← hN]; simp
  have lN : N < W.heap.size := by rw [hW, ← hN]; simp
  have hbW := hb.below hbw (RBlk.below hbw)
  have HC := starts_any bs n nv av ab cv cb W hnn hbW hn8
  have HW : Hid (W = w.alloc (.cells #[.slice av nv cv, .slice ab n cb] 25)) := hW
  have HN : Hid (w.heap.size = N) := hN
  have HBW : Hid (Below w.heap.size w W) := hbw
  have HBL : Hid (SlOf W 3 (RBlk W) (.slice ab n cb) bs) := hbW
  have HNN : Hid (bs.length = n) := hnn
  clear hW hN hbw hbW hb hv hbs hnn hn
  go_enter Try.func3, Try.ntmps3
  go_upto_region 1 with fail
  rw [← HW.out, HN.out]
  clear HW
  go_wp2_with fail
  refine HC.mono ?_
  clear HC
  rintro e w1 ⟨g, cap, rfl, hgl, s1, hb1⟩
  have g0 := (hb1.cell (p := ⟨N, 0, none⟩) lN).trans f0
  have g1 := (hb1.cell (p := ⟨N, 1, none⟩) lN).trans f1
  have HC := startsOf_any bs n nv av ab cv cb w1 HNN.out (HBL.out.below hb1 (RBlk.below hb1)) hn8
  have HS1 : Hid (SlOf w1 1 RInt (.slice (some ⟨g, 0, none⟩) (n + 1) cap) (startsW bs (n + 1))) := s1
  have HB1 : Hid (Below w.heap.size w w1) := HBW.out.trans (hb1.mono HBW.out.size)
  clear s1 hb1 f0 f1
  go_wp2_with fail
  refine HC.mono ?_
  clear HC g0 g1
  rintro e w2 ⟨a2, cap2, rfl, s2, hb2⟩
  have HC := lsame_true (startsW bs (n + 1)) (some ⟨g, 0, none⟩) a2 (n + 1) cap cap2 w2 (startsW_length _ _) (HS1.out.below hb2 fun _ _ h => h) s2
  have HB2 : Hid (Below w.heap.size w w2) := HB1.out.trans (hb2.mono HB1.out.size)
  clear s2 hb2 HS1
  go_wp2_with fail
  refine HC.mono ?_
  clear HC
  rintro e w3 ⟨rfl, hb3⟩
  have HB3 : Hid (Below w.heap.size w w3) := HB2.out.trans (hb3.mono HB2.out.size)
  clear hb3
  go_wp2
  go_ret
  exact ⟨rfl, HB3.out⟩
end Go.Proofs.Ytjpmkamacbenhaa
