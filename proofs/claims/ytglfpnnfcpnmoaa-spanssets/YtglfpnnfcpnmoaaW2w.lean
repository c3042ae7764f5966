/-
  The contract of the mason's 'instr'.
-/
import Derived.Test.YtglfpnnfcpnmoaaW2l
namespace Go.Proofs.Ytglfpnnfcpnmoaa
open Go.RowKit
set_option linter.unusedVariables false

set_option maxRecDepth 8000 in
set_option maxHeartbeats 16000000 in
theorem ma_instr (N : Nat) (κ : Nat → Nat) (w : World) (P : Nat) (s : Ms) (p : Pc) (h : MaO N κ w P s) (hm : MsOk s) (hp : PcOk p) (hk : s.known.length ≤ 10000) (hv : s.f.values.length ≤ 10000) :
    Calls Try.prog 26 #[.pointer (some ⟨P, 0, none⟩), .agg #[.int .i64 p.kind, .int .i64 p.op, .int .i64 p.a, .int .i64 p.b, .int .i64 p.c, .int .i64 p.limits, .int .i64 p.flags]] w fun e w' => ∃ vo vs κ', e = .returned (.agg #[.int .i64 (instrM s p).1.op, vo, vs]) ∧ MaO N κ' w' P { s with f := ⟨(instrM s p).2, s.f.blocks⟩ } ∧ Only MR κ κ' w w' ∧ SlK κ' w' 5 ROpr vo (instrM s p).1.operands ∧ SlK κ' w' 2 RRg vs (instrM s p).1.spoils := by
  obtain ⟨iO, hiO, hzO, hzO1, hzO2⟩ := info_parts infoMO
  obtain ⟨iR, hiR, hzR, hzR1, hzR2⟩ := info_parts infoMR
  have hmk : ∀ w : World, (Instr.makeSlice 27 (.int .i64 2) (.int .i64 2)).run Try.prog w = .ok (.slice (some ⟨w.heap.size, 0, none⟩) 2 2) (w.alloc (.cells (madeCells #[.int .i64 0] 2) 3)) := run_make_row' (P := Try.prog) 27 3 (.int .i64 0) 8 Try.underlying27 (by kernel_rfl) rfl .i64 .i64 2 (by omega) (by omega)
  obtain ⟨op0, op1⟩ := hp.op
  obtain ⟨a0, a1⟩ := hp.a
  obtain ⟨b0, b1⟩ := hp.b
  obtain ⟨c0, c1⟩ := hp.c
  obtain ⟨l0, l1⟩ := hp.limits
  obtain ⟨f0, f1⟩ := hp.flags
  have bop := pickedOf_bd p.op 256 (by decide)
  have bl := pickedOf_bd p.limits 1099511627776 (by decide)
  have bf := pickedOf_bd p.flags 1073741824 (by decide)
  have HI : Hid (instrM s p = (⟨pickedOf p.op 256, (defsM s p (pickedOf p.flags 1073741824) (usesM s p (pickedOf p.flags 1073741824) 3 0 ⟨[], (0, 0), (0, 0), pickedOf p.limits 1099511627776⟩)).2.2.ops, spM s p (pickedOf p.flags 1073741824) (defsM s p (pickedOf p.flags 1073741824) (usesM s p (pickedOf p.flags 1073741824) 3 0 ⟨[], (0, 0), (0, 0), pickedOf p.limits 1099511627776⟩)).2.2⟩, (defsM s p (pickedOf p.flags 1073741824) (usesM s p (pickedOf p.flags 1073741824) 3 0 ⟨[], (0, 0), (0, 0), pickedOf p.limits 1099511627776⟩)).1)) := rfl
  generalize hr : instrM s p = r at *
  clear hr
  obtain ⟨pop, hpop⟩ : ∃ pop, pickedOf p.op 256 = pop := ⟨_, rfl⟩
  obtain ⟨plim, hplim⟩ : ∃ plim, pickedOf p.limits 1099511627776 = plim := ⟨_, rfl⟩
  obtain ⟨pfl, hpfl⟩ : ∃ pfl, pickedOf p.flags 1073741824 = pfl := ⟨_, rfl⟩
  rw [hpop] at bop HI
  rw [hplim] at bl HI
  rw [hpfl] at bf HI
  obtain ⟨pl0, pl1⟩ := bl
  obtain ⟨pf0, pf1⟩ := bf
  obtain ⟨U0, hU0⟩ : ∃ U0, usesM s p pfl 3 0 ⟨[], (0, 0), (0, 0), plim⟩ = U0 := ⟨_, rfl⟩
  rw [hU0] at HI
  have HU0 : Hid (U0 = usesM s p pfl 3 0 ⟨[], (0, 0), (0, 0), plim⟩) := hU0.symm
  clear hU0
  have HPop : Hid (pickedOf p.op 256 = pop) := hpop
  have HPlim : Hid (pickedOf p.limits 1099511627776 = plim) := hplim
  have HPfl : Hid (pickedOf p.flags 1073741824 = pfl) := hpfl
  clear hpop hplim hpfl bop
  obtain ⟨W, hW⟩ : ∃ W, W = ((((w.alloc (.cells #[.int .i64 p.kind, .int .i64 p.op, .int .i64 p.a, .int .i64 p.b, .int .i64 p.c, .int .i64 p.limits, .int .i64 p.flags] 62)).alloc (.cells #[.int .i64 0, .slice none 0 0, .slice none 0 0] 44)).alloc (.cells #[.int .i64 pop, .slice none 0 0, .slice none 0 0] 44)).alloc (.cells (madeCells #[.int .i64 0] 2) 3)).alloc (.cells (madeCells #[.int .i64 0] 2) 3) := ⟨_, rfl⟩
  have HW : Hid (W = ((((w.alloc (.cells #[.int .i64 p.kind, .int .i64 p.op, .int .i64 p.a, .int .i64 p.b, .int .i64 p.c, .int .i64 p.limits, .int .i64 p.flags] 62)).alloc (.cells #[.int .i64 0, .slice none 0 0, .slice none 0 0] 44)).alloc (.cells #[.int .i64 pop, .slice none 0 0, .slice none 0 0] 44)).alloc (.cells (madeCells #[.int .i64 0] 2) 3)).alloc (.cells (madeCells #[.int .i64 0] 2) 3)) := hW
  obtain ⟨X, hX⟩ : ∃ X, w.heap.size = X := ⟨_, rfl⟩
  have HX : Hid (w.heap.size = X) := hX
  have HS0 : Hid (MIn N κ w X P s p pop (fun b => if X ≤ b ∧ b ≤ X + 4 then 5 else κ b) W ⟨[], (0, 0), (0, 0), plim⟩ [] (.slice none 0 0) (.slice none 0 0)) := by
    have hz : W.heap.size = X + 5 := by rw [hW]; simp; omega
    have hbw : Below w.heap.size w W := by
      rw [hW]
      repeat (first | exact Below.refl _ _ | refine Below.alloc ?_ (by simp; try omega) _)
    have hO : Only (fun r => r = 5) κ (fun b => if X ≤ b ∧ b ≤ X + 4 then 5 else κ b) w W := (Only.of_below hbw).tag fun b hb => by show (if X ≤ b ∧ b ≤ X + 4 then 5 else κ b) = κ b; rw [if_neg (by omega)]
    refine ⟨h.only hO fun b hb => ?_, ⟨hO.os, hO.tape, hO.output, hO.size, hO.role, fun b hb _ => hbw.block b hb⟩, hX, fun b h1 h2 => ?_, ?_, ?_, ?_, ⟨?_, ?_, by omega⟩, World.ownsRow_nil _ _ _ _, fun g hg => by simp [Value.ownBlock] at hg, World.ownsRow_nil _ _ _ _, fun g hg => by simp [Value.ownBlock] at hg, fun g hg => by simp [Value.ownBlock] at hg⟩
    · show (if X ≤ b ∧ b ≤ X + 4 then 5 else κ b) = 0
      rw [if_neg (by omega)]
      exact h.fresh b (by omega)
    · show (if X ≤ b ∧ b ≤ X + 4 then 5 else κ b) = 5
      rw [if_pos ⟨h1, h2⟩]
    · rw [hW, ← hX]
      refine World.rowIs.alloc (World.rowIs.alloc (World.rowIs.alloc (World.rowIs.alloc ?_ _) _) _) _
      exact World.rowIs_alloc w #[.int .i64 p.kind, .int .i64 p.op, .int .i64 p.a, .int .i64 p.b, .int .i64 p.c, .int .i64 p.limits, .int .i64 p.flags] 62 (pieceRow p) fun i hi => by
        simp at hi
        match i, hi with | 0, _ => rfl | 1, _ => rfl | 2, _ => rfl | 3, _ => rfl | 4, _ => rfl | 5, _ => rfl | 6, _ => rfl
    · rw [hW, ← hX]
      refine World.rowIs.alloc (World.rowIs.alloc (World.rowIs.alloc ?_ _) _) _
      have := World.rowIs_alloc (w.alloc (.cells #[.int .i64 p.kind, .int .i64 p.op, .int .i64 p.a, .int .i64 p.b, .int .i64 p.c, .int .i64 p.limits, .int .i64 p.flags] 62)) #[.int .i64 0, .slice none 0 0, .slice none 0 0] 44 (insRow 0 (.slice none 0 0) (.slice none 0 0)) fun i hi => by
        simp at hi
        match i, hi with | 0, _ => rfl | 1, _ => rfl | 2, _ => rfl
      simpa using this
    · rw [hW, ← hX]
      refine World.rowIs.alloc (World.rowIs.alloc ?_ _) _
      have := World.rowIs_alloc ((w.alloc (.cells #[.int .i64 p.kind, .int .i64 p.op, .int .i64 p.a, .int .i64 p.b, .int .i64 p.c, .int .i64 p.limits, .int .i64 p.flags] 62)).alloc (.cells #[.int .i64 0, .slice none 0 0, .slice none 0 0] 44)) #[.int .i64 pop, .slice none 0 0, .slice none 0 0] 44 (insRow pop (.slice none 0 0) (.slice none 0 0)) fun i hi => by
        simp at hi
        match i, hi with | 0, _ => rfl | 1, _ => rfl | 2, _ => rfl
      simpa using this
    · rw [hW, ← hX]
      refine World.rowIs.alloc ?_ _
      have := World.rowIs_made (((w.alloc (.cells #[.int .i64 p.kind, .int .i64 p.op, .int .i64 p.a, .int .i64 p.b, .int .i64 p.c, .int .i64 p.limits, .int .i64 p.flags] 62)).alloc (.cells #[.int .i64 0, .slice none 0 0, .slice none 0 0] 44)).alloc (.cells #[.int .i64 pop, .slice none 0 0, .slice none 0 0] 44)) (.int .i64 0) 2 3
      have ez : (((w.alloc (.cells #[.int .i64 p.kind, .int .i64 p.op, .int .i64 p.a, .int .i64 p.b, .int .i64 p.c, .int .i64 p.limits, .int .i64 p.flags] 62)).alloc (.cells #[.int .i64 0, .slice none 0 0, .slice none 0 0] 44)).alloc (.cells #[.int .i64 pop, .slice none 0 0, .slice none 0 0] 44)).heap.size = w.heap.size + 1 + 1 + 1 := by simp
      rw [ez] at this
      exact this.congr fun i hi => by simp [get2]
    · rw [hW, ← hX]
      have := World.rowIs_made ((((w.alloc (.cells #[.int .i64 p.kind, .int .i64 p.op, .int .i64 p.a, .int .i64 p.b, .int .i64 p.c, .int .i64 p.limits, .int .i64 p.flags] 62)).alloc (.cells #[.int .i64 0, .slice none 0 0, .slice none 0 0] 44)).alloc (.cells #[.int .i64 pop, .slice none 0 0, .slice none 0 0] 44)).alloc (.cells (madeCells #[.int .i64 0] 2) 3)) (.int .i64 0) 2 3
      have ez : ((((w.alloc (.cells #[.int .i64 p.kind, .int .i64 p.op, .int .i64 p.a, .int .i64 p.b, .int .i64 p.c, .int .i64 p.limits, .int .i64 p.flags] 62)).alloc (.cells #[.int .i64 0, .slice none 0 0, .slice none 0 0] 44)).alloc (.cells #[.int .i64 pop, .slice none 0 0, .slice none 0 0] 44)).alloc (.cells (madeCells #[.int .i64 0] 2) 3)).heap.size = w.heap.size + 1 + 1 + 1 + 1 := by simp
      rw [ez] at this
      exact this.congr fun i hi => by simp [get2]
  have HM : Hid (MsOk s) := hm
  have hPX : P < X := by have := h.kP.2; omega
  have HF : Hid (∀ b, w.heap.size ≤ b → κ b = 0) := h.fresh
  clear hm hp hW hX h
  go_enter Try.func26, Try.ntmps26
  go_upto_region 7 with (go_at_call 12; first | (with_reducible refine (picked_is _ _ _ _ HPop.out (by omega) (by omega) (by omega) (by omega)).mono ?_; rintro e w' ⟨rfl, rfl⟩) | (with_reducible refine (picked_is _ _ _ _ HPlim.out (by omega) (by omega) (by omega) (by omega)).mono ?_; rintro e w' ⟨rfl, rfl⟩) | (with_reducible refine (picked_is _ _ _ _ HPfl.out (by omega) (by omega) (by omega) (by omega)).mono ?_; rintro e w' ⟨rfl, rfl⟩))
  rw [← HW.out, HX.out]
  clear HPop HPlim HPfl HW
  go_loopw [8, 10] (fun l i wr => ∃ (j : Nat) (x : Wk) (κr : Nat → Nat) (vo : Value), j ≤ 3 ∧ l = .int .i64 x.limits ∧ i = .int .i64 j ∧ Hid (MIn N κ w X P s p pop κr wr x [] vo (.slice none 0 0)) ∧ Hid (U0 = usesM s p pfl (3 - j) j x ∧ 0 ≤ x.limits ∧ x.limits < 1099511627776 ∧ NfBd j x ∧ x.ops.length = j)) (fun _ i _ => 3 - (intOf i).toNat)
  case atStart => exact ⟨0, _, _, _, by omega, rfl, rfl, HS0, HU0.out, pl0, pl1, fun c hc => by rcases hc with rfl | rfl <;> simp [get2], rfl⟩
  case round =>
    obtain ⟨j, x, κr, vo, hj, rfl, rfl, HI1, HU⟩ := hrel
    obtain ⟨vv, vb, vk, al, bx, hMS⟩ := HI1.out.ma
    have P0 := hMS.cells.1
    have P1 := hMS.cells.2.1
    have P2 := hMS.cells.2.2.1
    have P5 := hMS.cells.2.2.2.2.2.1
    by_cases hg : (j : Int) < pfl % 4 ∧ 0 < s.known.length
    · obtain ⟨hg1, hg2⟩ := hg
      obtain ⟨n, hn⟩ : ∃ n, 3 - j = n + 1 := ⟨2 - j, by omega⟩
      have hU := HU.out.1
      rw [hn] at hU
      simp only [usesM] at hU
      rw [if_pos ⟨hg1, by intro e; rw [e] at hg2; simp at hg2⟩] at hU
      have hpk := pickedOf_bd (Int.tdiv p.a ((j : Int) + 1)) s.known.length (by omega)
      obtain ⟨pk, hpk'⟩ : ∃ pk, pickedOf (Int.tdiv p.a ((j : Int) + 1)) s.known.length = pk := ⟨_, rfl⟩
      rw [hpk'] at hpk hU
      obtain ⟨q0, q1⟩ := hpk
      have td := tdiv_bd p.a j a0 a1
      obtain ⟨td0, td1⟩ := td
      obtain ⟨gk, ck, rfl, lgk, K0⟩ := own_int hMS.ok rfl pk.toNat (by omega)
      have hvk : s.known.getD pk.toNat 0 ∈ s.known := by
        rw [List.getD_eq_getElem?_getD, List.getElem?_eq_getElem (by omega)]
        exact List.getElem_mem _
      generalize s.known.getD pk.toNat 0 = v at *
      have hvv := HM.out.kn v hvk
      simp only [isValueB, decide_eq_true_eq] at hvv
      have hcls := cls_at HM.out.cls v (by simp only [isValueB, decide_eq_true_eq]; exact hvv)
      obtain ⟨v0, v1⟩ := hvv
      obtain ⟨gv, cv, rfl, lgv, V0⟩ := own_int hMS.ov rfl v.toNat (by omega)
      have eV : s.f.values.getD v.toNat 0 = classAt s.f.values v := rfl
      rw [eV] at V0
      clear eV
      generalize classAt s.f.values v = c at *
      have HPK : Hid (pickedOf (Int.tdiv p.a ((j : Int) + 1)) s.known.length = pk) := hpk'
      have XA : wr.cell? ⟨X, 2, none⟩ = some (.int .i64 p.a) := HI1.out.rp.cell (i := 2) (by omega)
      have HUU : Hid (U0 = usesM s p pfl n (j + 1) ⟨x.ops ++ [⟨1, v, decide (pfl / 2 ^ (4 + j) % 2 = 1), (limitM s.m0 s.m1 (1 + x.limits % 4) c x.need x.fixed).1, (limitM s.m0 s.m1 (1 + x.limits % 4) c x.need x.fixed).2.1⟩], (limitM s.m0 s.m1 (1 + x.limits % 4) c x.need x.fixed).2.2.1, (limitM s.m0 s.m1 (1 + x.limits % 4) c x.need x.fixed).2.2.2, x.limits / 4⟩) := hU
      clear hU hpk' hvk
      have HC : Hid (c = 0 ∨ c = 1) := hcls
      have HNN : Hid (3 - j = n + 1) := hn
      clear hcls hMS hn
      have xl0 := HU.out.2.1
      have xl1 := HU.out.2.2.1
      have gz : s.known.length ≠ 0 := by omega
      generalize hnk : s.known.length = nk at *
      generalize hnv : s.f.values.length = nv at *
      go_wp2_with fail
      go_quiet ((go_at_call 12; exact Calls.quiet_of_same (picked_is _ _ _ _ HPK.out td0 td1 (by omega) (by omega))))
      have hd : Below wr.heap.size wr (wr.drewN nq) := below_drewN (Below.refl _ _) nq
      have HI2 : Hid (MIn N κ w X P s p pop κr (wr.drewN nq) x [] vo (.slice none 0 0)) := HI1.out.below hd
      have Q0 : (wr.drewN nq).cell? ⟨P, 0, none⟩ = some (.int .i64 s.m0) := P0
      have Q1 : (wr.drewN nq).cell? ⟨P, 1, none⟩ = some (.int .i64 s.m1) := P1
      have Q2 : (wr.drewN nq).cell? ⟨P, 2, none⟩ = some (.slice (some ⟨gv, 0, none⟩) nv cv) := P2
      have QV : (wr.drewN nq).cell? ⟨gv, v.toNat, none⟩ = some (.int .i64 c) := V0
      have lgv' : gv < (wr.drewN nq).heap.size := lgv
      clear hd P0 P1 P2 P5 V0 K0 XA HI1 lgk lgv HPK
      generalize wr.drewN nq = w1 at *
      clear nq
      go_upto_region 11 with fail
      obtain ⟨lt, hlt⟩ : ∃ lt, ((pfl / 2 ^ (4 + j)).tmod 2 == 1) = lt := ⟨_, rfl⟩
      have hlt2 : decide (pfl / 2 ^ (4 + j) % 2 = 1) = lt := by rw [← hlt, Int.tmod_eq_emod_of_nonneg (Int.ediv_nonneg pf0 (Int.pow_nonneg (by decide)))]; rfl
      rw [hlt2] at HUU
      rw [hlt]
      clear hlt hlt2
      obtain ⟨B, hB⟩ : ∃ B, w1.heap.size = B := ⟨_, rfl⟩
      obtain ⟨wo, hwo⟩ : ∃ wo, wo = w1.alloc (.cells #[.int .i64 1, .int .i64 v, .bool lt, .int .i64 0, .int .i64 0] 46) := ⟨_, rfl⟩
      have hbo : Below w1.heap.size w1 wo := by rw [hwo]; exact (Below.refl _ _).alloc (Nat.le_refl _) _
      have ro : wo.rowIs B 46 5 (oprRow 1 v lt 0 0) := by
        rw [hwo, ← hB]
        exact World.rowIs_alloc w1 #[.int .i64 1, .int .i64 v, .bool lt, .int .i64 0, .int .i64 0] 46 (oprRow 1 v lt 0 0) fun i hi => by
          simp at hi
          match i, hi with | 0, _ => rfl | 1, _ => rfl | 2, _ => rfl | 3, _ => rfl | 4, _ => rfl
      rw [← hwo, hB]
      clear hwo
      have hXl := HI2.out.lt
      have R0 := (hbo.cell (p := ⟨P, 0, none⟩) (by simp; omega)).trans Q0
      have R1 := (hbo.cell (p := ⟨P, 1, none⟩) (by simp; omega)).trans Q1
      have R2 := (hbo.cell (p := ⟨P, 2, none⟩) (by simp; omega)).trans Q2
      have RV := (hbo.cell (p := ⟨gv, v.toNat, none⟩) lgv').trans QV
      have hbd := HU.out.2.2.2.1
      have HL := limit_any P (X + 1 + 1 + 1) (X + 1 + 1 + 1 + 1) s.m0 s.m1 (1 + x.limits % 4) c x.need x.fixed wo (by omega) HC.out HM.out.m0.2 HM.out.m1.2 (HI2.out.nf.off (hbo.block _ (by omega)) (hbo.block _ (by omega))) (fun d hd => by have := hbd d hd; omega) R0 R1 (by omega) (by omega)
      have hbd2 := limit_bd (m0 := s.m0) (m1 := s.m1) (wish := 1 + x.limits % 4) HC.out (ops := x.ops) (l := x.limits) (need := x.need) (fixed := x.fixed) hbd (x.ops ++ [⟨1, v, lt, (limitM s.m0 s.m1 (1 + x.limits % 4) c x.need x.fixed).1, (limitM s.m0 s.m1 (1 + x.limits % 4) c x.need x.fixed).2.1⟩]) (x.limits / 4)
      generalize limitM s.m0 s.m1 (1 + x.limits % 4) c x.need x.fixed = r4 at *
      have HB2 : Hid (NfBd (j + 1) ⟨x.ops ++ [⟨1, v, lt, r4.1, r4.2.1⟩], r4.2.2.1, r4.2.2.2, x.limits / 4⟩) := hbd2
      have HBO : Hid (Below w1.heap.size w1 wo) := hbo
      have HBB : Hid (w1.heap.size = B) := hB
      clear hbd hbd2 Q0 Q1 Q2 QV hbo hB
      go_wp2_with fail
      refine HL.mono ?_
      clear HL
      rintro e w2 ⟨rfl, hN2, hT2⟩
      have ro2 : w2.rowIs B 46 5 (oprRow 1 v lt 0 0) := ro.of_block (hT2.block B (by have := HBB.out; omega) (by have := HBB.out; omega))
      have ro3 : ((w2.setCell ⟨B, 3, none⟩ (.int .i64 r4.1)).setCell ⟨B, 4, none⟩ (.int .i64 r4.2.1)).rowIs B 46 5 (oprRow 1 v lt r4.1 r4.2.1) := ((ro2.set 3 _).set 4 _).congr fun q hq => by match q, hq with | 0, _ => rfl | 1, _ => rfl | 2, _ => rfl | 3, _ => rfl | 4, _ => rfl
      obtain ⟨W3, hW3⟩ : ∃ W3, W3 = (w2.setCell ⟨B, 3, none⟩ (.int .i64 r4.1)).setCell ⟨B, 4, none⟩ (.int .i64 r4.2.1) := ⟨_, rfl⟩
      have hI3 : MIn N κ w X P s p pop κr W3 ⟨x.ops, r4.2.2.1, r4.2.2.2, x.limits / 4⟩ [] vo (.slice none 0 0) := by
        rw [hW3]
        refine HI2.out.off (((Off.two HBO.out hT2).set (by have := HBB.out; omega) _ _).set (by have := HBB.out; omega) _ _) (hN2.off ?_ ?_)
        · rw [Below.heap_setCell _ _ _ _ (by have := HBB.out; simp; omega), Below.heap_setCell _ _ _ _ (by have := HBB.out; simp; omega)]
        · rw [Below.heap_setCell _ _ _ _ (by have := HBB.out; simp; omega), Below.heap_setCell _ _ _ _ (by have := HBB.out; simp; omega)]
      rw [← hW3] at ro3
      have HW3 : Hid (W3 = (w2.setCell ⟨B, 3, none⟩ (.int .i64 r4.1)).setCell ⟨B, 4, none⟩ (.int .i64 r4.2.1)) := hW3
      have HI3 : Hid (MIn N κ w X P s p pop κr W3 ⟨x.ops, r4.2.2.1, r4.2.2.2, x.limits / 4⟩ [] vo (.slice none 0 0)) := hI3
      have z3 := ro2.frozen 3
      have z4 := ro2.frozen 4
      have s0 : w2.cell? ⟨B, 3, none⟩ = some (.int .i64 0) := ro2.cell (i := 3) (by omega)
      have s1 : w2.cell? ⟨B, 4, none⟩ = some (.int .i64 0) := ro2.cell (i := 4) (by omega)
      have T0 : W3.cell? ⟨B, 0, none⟩ = some (.int .i64 1) := ro3.cell (i := 0) (by omega)
      have T1 : W3.cell? ⟨B, 1, none⟩ = some (.int .i64 v) := ro3.cell (i := 1) (by omega)
      have T2 : W3.cell? ⟨B, 2, none⟩ = some (.bool lt) := ro3.cell (i := 2) (by omega)
      have T3 : W3.cell? ⟨B, 3, none⟩ = some (.int .i64 r4.1) := ro3.cell (i := 3) (by omega)
      have T4 : W3.cell? ⟨B, 4, none⟩ = some (.int .i64 r4.2.1) := ro3.cell (i := 4) (by omega)
      have X1 : W3.cell? ⟨X + 1 + 1, 1, none⟩ = some vo := hI3.rx.cell (i := 1) (by omega)
      have Z1 := hI3.rx.frozen 1
      have oA := hI3.oo.alloc (.cells #[.int .i64 1, .int .i64 v, .bool lt, .int .i64 r4.1, .int .i64 r4.2.1] 46)
      have nX : some (X + 1 + 1) ≠ vo.ownBlock := fun e => by have := (hI3.ko _ e.symm).2; omega
      have hXl3 := hI3.lt
      have hNs := hI3.ma.szN
      have hol := HU.out.2.2.2.2
      have hopl : x.ops.length ≤ 3 := by omega
      clear hol ro ro2 ro3 hW3 hI3 hN2 hT2 R0 R1 R2 RV HBO
      go_upto_region 12 with fail
      rw [← HW3.out]
      clear z3 z4 s0 s1 HW3
      go_wp2_with (at_builtin; go_must (refine wpList_append_lies _ rfl _ _ 41 rfl N 46 iO _ 5 40 Try.underlying41 hiO hzO hzO1 hzO2 rfl (by omega) vo x.ops.length _ (by rfl) oA ⟨W3.heap.size, 0, none⟩ 1 1 [.int .i64 1, .int .i64 v, .bool lt, .int .i64 r4.1, .int .i64 r4.2.1] (by rfl) (by rfl) ?c1 ?c2 (by omega) ?c3 ?c4 ?c5 (W3.heap.size + 1) ?c6 ?_))
      rotate_left
      any_goals (first | (exact newsG rfl) | rfl | (show Value.oneCell' _ = true; simp [Value.oneCell']) | (intro u hu; simp at hu; rcases hu with rfl | rfl | rfl | rfl | rfl <;> rfl) | (unfold maxLen; omega) | omega | (simp; omega) | (simp; rfl) | (simp; done))
      intro g cap wb hown hgrow hat hgl
      have hP := HI3.out.pushO (o := ⟨1, v, lt, r4.1, r4.2.1⟩) ((Below.refl _ _).alloc (Nat.le_refl _) (.cells #[.int .i64 1, .int .i64 v, .bool lt, .int .i64 r4.1, .int .i64 r4.2.1] 46)) hgrow hown (by simpa using hat)
      have HP : Hid (MIn N κ w X P s p pop (upK κr g 5) (wb.setCell ⟨X + 1 + 1, 1, none⟩ (.slice (some ⟨g, 0, none⟩) (x.ops.length + 1) cap)) ⟨x.ops ++ [⟨1, v, lt, r4.1, r4.2.1⟩], r4.2.2.1, r4.2.2.2, x.limits / 4⟩ [] (.slice (some ⟨g, 0, none⟩) (x.ops.length + 1) cap) (.slice none 0 0)) := hP
      have LX := old_cell (X + 1 + 1)
      have lX' : X + 1 + 1 < (W3.alloc (.cells #[.int .i64 1, .int .i64 v, .bool lt, .int .i64 r4.1, .int .i64 r4.2.1] 46)).heap.size := by simp; omega
      have o1' := (hgrow.cell_far ⟨X + 1 + 1, 1, none⟩ lX' nX).trans ((LX _ _ _ (by omega)).trans X1)
      have oz' := (hgrow.frozen_far ⟨X + 1 + 1, 1, none⟩ lX' nX).trans ((frozen?_alloc_cells _ _ _ _).trans Z1)
      clear hP hown hgrow hat hgl oA LX X1 Z1 T0 T1 T2 T3 T4
      go_wp2
      go_roundw
      case rel => exact ⟨j + 1, _, _, _, by omega, rfl, by go_num, HP, by have := HUU.out; rw [show 3 - (j + 1) = n by have := HNN.out; omega]; exact this, by show 0 ≤ x.limits / 4; omega, by show x.limits / 4 < 1099511627776; omega, by have := HB2.out; exact_mod_cast this, by simp; exact HU.out.2.2.2.2⟩
      case measure => simp [intOf]; omega
    · go_upto_region 7 with fail
      go_cut [46] (fun v wz => v = .bool false ∧ wz = wr)
      case first =>
        by_cases hg1 : (j : Int) < pfl % 4
        · have hk0 : s.known.length = 0 := by
            rcases Nat.eq_zero_or_pos s.known.length with h | h
            · exact h
            · exact absurd ⟨hg1, h⟩ hg
          have hvk : vk = .slice none 0 0 ∨ ∃ a c, vk = .slice a 0 c := by
            have := hMS.ok.2
            rw [hk0] at this
            rcases this with ⟨h, _⟩ | ⟨g, cap, cur, h, _⟩
            · exact Or.inl h
            · exact Or.inr ⟨_, _, h⟩
          have hvk2 : ∃ a c, vk = .slice a 0 c := by
            rcases hvk with h | h
            · exact ⟨_, _, h⟩
            · exact h
          obtain ⟨a, c, rfl⟩ := hvk2
          clear hvk hMS hg hk0
          go_wp2
          go_meet
          exact ⟨rfl, rfl⟩
        · clear hg
          go_wp2
          go_meet
          exact ⟨rfl, rfl⟩
      case rest =>
        obtain ⟨rfl, hwc⟩ := hcut
        subst hwc
        have hUx : U0 = x := by
          rw [HU.out.1]
          match h3 : 3 - j with
          | 0 => rfl
          | n + 1 =>
            simp only [usesM]
            rw [if_neg (fun hh => hg ⟨hh.1, List.length_pos_iff.2 hh.2⟩)]
        subst hUx
        have hul := HU.out.2.2.2.2
        have HU2 : Hid (0 ≤ U0.limits ∧ U0.limits < 1099511627776 ∧ NfBd 3 U0 ∧ U0.ops.length ≤ 3) := ⟨HU.out.2.1, HU.out.2.2.1, fun c hc => by have := HU.out.2.2.2.1 c hc; omega, by omega⟩
        have X1 : wc.cell? ⟨X + 1 + 1, 1, none⟩ = some vo := HI1.out.rx.cell (i := 1) (by omega)
        clear hMS hg P0 P1 P2 P5 HU
        obtain ⟨ao, co, rfl, _⟩ := (own_oprs _ HI1.out.oo (by unfold longest; omega)).out
        clear hul
        have HVAL : Hid (∀ o ∈ U0.ops, isValueB s.f.values.length o.value = true) := fun o ho => by
          have h1 := (usesM_ok s p pfl HM.out.kn (cls_at HM.out.cls) 3 0 ⟨[], (0, 0), (0, 0), plim⟩ (WkOk.nil _ _ _ _ HM.out.m0.1 HM.out.m1.1) (by simp) pl0).1
          rw [← HU0.out] at h1
          exact oprErr_value (h1.opr o ho)
        have HD0 : Hid (DfS s p pfl U0 0 s.f.values (-1) U0) := ⟨rfl, HU2.out.1, HU2.out.2.1, HU2.out.2.2.1, rfl, rfl, HVAL.out, HM.out.cls⟩
        have hu3 := HU2.out.2.2.2
        go_upto_block 2 with fail
        clear X1
        refine instr_defs N κ w X P s p pop pfl U0 _ _ wc hv HM hPX b0 b1 c0 c1 pf0 pf1 hu3 HI1 HD0 _ _ _ _ _ _ _ _ _ _ _ _ _ _ _ _ _ _ _ _ _ _ _ _ _ _ _ _ _ _ _ _ _ _ _ _ _ _ _ _ _ _ _ _ _ _ _ _ _ _ _ _ _ _ _ _ _ _ _ _ _ _ _ _ _ _ _ _ _ _ _ _ _ _ _ _ _ _ _ _ _ _ _ _ _ _ _ _ _ _ _ _ _ _ _ _ _ _ _ _ _ _ _ _ _ _ _ _ _ _ _ _ _ _ _ _ _ _ _ _ _ _ _ _ _ _ _ _ _ _ _ _ _ _ _ _ _ _ _ _ _ _ _ _ _ _ _ _ _ _ _ _ _ _ _ _ _ _ _ _ _ _ _ _ _ _ _ _ _ _ _ _ _ _ _ _ _ _ _ _ _ _ _ _ _ _ _ _ _ _ _ _ _ _ _ _ _ _ _ _ _ _ _ _ _ _ _ _ _ _ _ _ _ _ _ _ _ _ _ _ _ _ _ _ _ _ _ _ _ _ _ _ _ _ _ _ _ _ _ _ _ _ _ _ _ _ _ _ _ _ _ _ _ _ _ _ _ _ _ ?_ _ (by kernel_rfl)
        clear HI1 HD0 HVAL hj
        intro j vals reused x κr vo wr hj hg HI1 HD u16 u17 u18 u19 u105 u106 u107 u108 u109 u110 u111 u112 u113 u114 u115 u116 u117 u118 u119 u120 u121 u122 u123 u124 u125 u126 u127 u128 u129 u130 u131 u132 u133 u134 u135 u136 u137 u138 u139 u140 u141 u142 u143 u144 u145 u146 u147 u148 u149 u150 u151 u152 u153 u154 u155 u156 u157 u158 u159 u160 u161 u162 u163 u164 u165 u166 u167 u168 u169 u170 u171 u172 u173 u174 u175 u176 u177 u178 u179 u180 u181 u182 u183 u184 u185 u186 u187 u188 u189 u190 u191 u192 u193 u194 u195 u196 u197 u198 u199 u200 u201 u202 u203 u204 u205 u206 u207 u208 u209 u210 u211 u212 u213 u214 u215 u216 u217 u218 u219 u220
        have HR2 : Hid (r = (⟨pop, x.ops, spM s p pfl x⟩, vals)) := by
          have hj2 : dSt s p pfl U0 j = defsM s p pfl U0 := by
            unfold defsM
            by_cases hb : pfl / 2 ^ 8 % 2 = 1
            · have : j = 2 := by omega
              subst this
              rw [if_pos hb]
              rfl
            · have : j = 1 := by omega
              subst this
              rw [if_neg hb]
              rfl
          have h1 := HI.out
          rw [← hj2, HD.out.eq] at h1
          exact h1
        have hj1 : j ≤ 2 := by omega
        have hvl : vals.length ≤ 10002 := by have := HD.out.vl; omega
        have hol2 : x.ops.length ≤ 5 := by have := HD.out.len; omega
        clear HI
        by_cases h3 : pfl / 2 ^ 12 % 3 = 0
        · have HSP : Hid (spM s p pfl x = spC s p x 2) := by show spM s p pfl x = _; unfold spM; rw [if_pos h3]; rfl
          have HRE : Hid (r = (⟨pop, x.ops, spC s p x 2⟩, vals)) := by have := HR2.out; rw [HSP.out] at this; exact this
          clear HR2 HSP
          obtain ⟨pb, hpb⟩ : ∃ pb, pickedOf p.b 4 = pb := ⟨_, rfl⟩
          have hpbb := pickedOf_bd p.b 4 (by omega)
          rw [hpb] at hpbb
          obtain ⟨pb0, pb1⟩ := hpbb
          have HPB4 : Hid (pickedOf p.b 4 = pb) := hpb
          clear hpb
          have HS1 : Hid (MIn N κ w X P { s with f := ⟨vals, s.f.blocks⟩ } p pop κr wr x (spC s p x 0) vo (.slice none 0 0)) := HI1
          have hbd0 := HD.out.bd 0 (Or.inl rfl)
          have hbd1 := HD.out.bd 1 (Or.inr rfl)
          have HBD : Hid (∀ cN : Nat, cN < 2 → 0 ≤ get2 x.need cN ∧ get2 x.need cN ≤ 5 ∧ 2 ≤ regsOf s.m0 s.m1 cN ∧ regsOf s.m0 s.m1 cN ≤ 10) := fun cN hc => by
            have h0 := HM.out.m0
            have h1 := HM.out.m1
            have hc' : cN = 0 ∨ cN = 1 := by omega
            rcases hc' with rfl | rfl
            · exact ⟨hbd0.1, by have := hbd0.2.1; have := hj1; exact Int.le_trans hbd0.2.1 (by omega), by simpa [regsOf] using h0.1, by simpa [regsOf] using h0.2⟩
            · exact ⟨hbd1.1, by have := hj1; exact Int.le_trans hbd1.2.1 (by omega), by simpa [regsOf] using h1.1, by simpa [regsOf] using h1.2⟩
          clear HI1 hbd0 hbd1
          go_upto_region 38 with fail
          go_loopw [20] (fun cc wr => ∃ (cN : Nat) (κr : Nat → Nat) (vs : Value), cN ≤ 2 ∧ cc = .int .i64 cN ∧ Hid (MIn N κ w X P { s with f := ⟨vals, s.f.blocks⟩ } p pop κr wr x (spC s p x cN) vo vs)) (fun cc _ => 2 - (intOf cc).toNat)
          case atStart => exact ⟨0, _, _, by omega, rfl, HS1⟩
          case round =>
            clear HS1
            obtain ⟨cN, κr, vs, hcN, rfl, HI1⟩ := hrel
            by_cases hc2 : cN < 2
            · obtain ⟨vv, vb, vk, al, bx, hMS⟩ := HI1.out.ma
              have hcd : decide ((cN : Int) < 2) = true := by simp; omega
              obtain ⟨n0, n1, g0, g1⟩ := HBD.out cN hc2
              have PR : wr.cell? ⟨P, cN, none⟩ = some (.int .i64 (regsOf s.m0 s.m1 cN)) := by
                have hc' : cN = 0 ∨ cN = 1 := by omega
                rcases hc' with rfl | rfl
                · exact hMS.cells.1
                · exact hMS.cells.2.1
              have NR : wr.cell? ⟨X + 1 + 1 + 1, cN, none⟩ = some (.int .i64 (get2 x.need cN)) := HI1.out.nf.rn.cell (i := cN) hc2
              have XB : wr.cell? ⟨X, 3, none⟩ = some (.int .i64 p.b) := HI1.out.rp.cell (i := 3) (by omega)
              have HSE : Hid (spC s p x (cN + 1) = spC s p x cN ++ spoilsM cN (min pb (regsOf s.m0 s.m1 cN - 1 - get2 x.need cN)) (regsOf s.m0 s.m1 cN)) := by
                show _ = _
                rw [← HPB4.out]
                have hc' : cN = 0 ∨ cN = 1 := by omega
                rcases hc' with rfl | rfl
                · rfl
                · rfl
              have hlen0 : (spC s p x cN).length ≤ 4 := by
                have hc' : cN = 0 ∨ cN = 1 := by omega
                rcases hc' with rfl | rfl
                · simp [spC]
                · simp only [spC, spoils_len]
                  rw [HPB4.out]
                  omega
              clear hMS
              obtain ⟨rg, hrg⟩ : ∃ rg, regsOf s.m0 s.m1 cN = rg := ⟨_, rfl⟩
              have HRG : Hid (regsOf s.m0 s.m1 cN = rg) := hrg
              rw [hrg] at PR HSE g0 g1
              clear hrg
              generalize get2 x.need cN = nd at *
              go_wp2_with fail
              go_quiet ((go_at_call 12; exact Calls.quiet_of_same (picked_is _ _ _ _ HPB4.out (by omega) (by omega) (by omega) (by omega))))
              have hId : MIn N κ w X P { s with f := ⟨vals, s.f.blocks⟩ } p pop κr (wr.drewN nq) x (spC s p x cN) vo vs := HI1.out.below (below_drewN (Below.refl _ _) nq)
              clear PR NR XB HI1 hcd
              have hcI : (cN : Int) < 2 := by omega
              generalize wr.drewN nq = w1 at *
              clear nq
              obtain ⟨mn, hmn⟩ : ∃ mn, min pb (rg - 1 - nd) = mn := ⟨_, rfl⟩
              have hmn1 : mn ≤ 3 := by omega
              have hmn0 : -10 ≤ mn := by omega
              have hmn' : (if rg - 1 - nd < pb then rg - 1 - nd else pb) = mn := by rw [← hmn]; split <;> omega
              rw [hmn']
              rw [hmn] at HSE
              clear hmn'
              clear hmn
              have HJ0 : Hid (MIn N κ w X P { s with f := ⟨vals, s.f.blocks⟩ } p pop κr w1 x (spC s p x cN ++ (List.range 0).map fun (i : Nat) => (⟨cN, rg - (mn - i)⟩ : Rg)) vo vs) := by rw [List.range_zero, List.map_nil, List.append_nil]; exact hId
              clear hId
              go_upto_region 42 with fail
              go_loopw [22] (fun kk wr => ∃ (tN : Nat) (κr : Nat → Nat) (vs : Value), (tN = 0 ∨ (tN : Int) ≤ mn) ∧ kk = .int .i64 (mn - tN) ∧ Hid (MIn N κ w X P { s with f := ⟨vals, s.f.blocks⟩ } p pop κr wr x (spC s p x cN ++ (List.range tN).map fun (i : Nat) => (⟨cN, rg - (mn - i)⟩ : Rg)) vo vs)) (fun kk _ => (intOf kk).toNat)
              case atStart => exact ⟨0, _, _, Or.inl rfl, by simp, HJ0⟩
              case round =>
                clear HJ0
                obtain ⟨tN, κr, vs, htN, rfl, HI1⟩ := hrel
                have htb : (tN : Int) ≤ 3 := by omega
                by_cases hk0' : 0 < mn - tN
                · have hI := HI1.out
                  obtain ⟨vv, vb, vk, al, bx, hMS⟩ := hI.ma
                  have PR : wr.cell? ⟨P, cN, none⟩ = some (.int .i64 rg) := by
                    have h1 := HRG.out
                    have hc' : cN = 0 ∨ cN = 1 := by omega
                    rcases hc' with rfl | rfl
                    · rw [← h1]; exact hMS.cells.1
                    · rw [← h1]; exact hMS.cells.2.1
                  have hPl : P < wr.heap.size := hMS.row.lt
                  clear hMS
                  have hXl := hI.lt
                  have hspn : (spC s p x cN ++ (List.range tN).map fun (i : Nat) => (⟨cN, rg - (mn - i)⟩ : Rg)).length ≤ 10 := by simp; omega
                  have HSN : Hid ((List.range (tN + 1)).map (fun (i : Nat) => (⟨cN, rg - (mn - i)⟩ : Rg)) = (List.range tN).map (fun (i : Nat) => (⟨cN, rg - (mn - i)⟩ : Rg)) ++ [⟨cN, rg - (mn - tN)⟩]) := by show _ = _; rw [List.range_succ, List.map_append]; rfl
                  have s2 : wr.cell? ⟨X + 1 + 1, 2, none⟩ = some vs := hI.rx.cell (i := 2) (by omega)
                  have sz := hI.rx.frozen 2
                  have own := hI.os
                  have nX : some (X + 1 + 1) ≠ vs.ownBlock := fun e => by have := (hI.ks _ e.symm).2; omega
                  have nP : some P ≠ vs.ownBlock := fun e => by have := (hI.ks _ e.symm).2; omega
                  have hNs := hI.ma.szN
                  generalize hL : (spC s p x cN ++ (List.range tN).map fun (i : Nat) => (⟨cN, rg - (mn - i)⟩ : Rg)) = L at *
                  have HL : Hid (spC s p x cN ++ (List.range tN).map (fun (i : Nat) => (⟨cN, rg - (mn - i)⟩ : Rg)) = L) := hL
                  have oA := (own.alloc (.cells #[.int .i64 cN, .int .i64 (rg - (mn - tN))] 97)).drew
                  have LX := old_cell (X + 1 + 1)
                  have LP := old_cell P
                  have cX : ((wr.alloc (.cells #[.int .i64 cN, .int .i64 (rg - (mn - tN))] 97)).drew).cell? ⟨X + 1 + 1, 2, none⟩ = some vs := (LX _ _ _ (by omega)).trans s2
                  have cZ : ((wr.alloc (.cells #[.int .i64 cN, .int .i64 (rg - (mn - tN))] 97)).drew).frozen? ⟨X + 1 + 1, 2, none⟩ = false := (frozen?_alloc_cells _ _ _ _).trans sz
                  have cP : ((wr.alloc (.cells #[.int .i64 cN, .int .i64 (rg - (mn - tN))] 97)).drew).cell? ⟨P, cN, none⟩ = some (.int .i64 rg) := (LP _ _ _ hPl).trans PR
                  have lX' : X + 1 + 1 < ((wr.alloc (.cells #[.int .i64 cN, .int .i64 (rg - (mn - tN))] 97)).drew).heap.size := by simp; omega
                  have lP' : P < ((wr.alloc (.cells #[.int .i64 cN, .int .i64 (rg - (mn - tN))] 97)).drew).heap.size := by simp; omega
                  have HN : Hid (∀ j u, ([.int .i64 cN, .int .i64 (rg - (mn - tN))] : List Value)[j]? = some u → ((wr.alloc (.cells #[.int .i64 cN, .int .i64 (rg - (mn - tN))] 97)).drew).cell? ((⟨wr.heap.size, 0, none⟩ : Addr).add j) = some u) := World.news_of_block (cs := #[.int .i64 cN, .int .i64 (rg - (mn - tN))]) (t := 97) (fr := (0, 0)) (heap_alloc_new wr _)
                  have h1c : ∀ u ∈ ([.int .i64 cN, .int .i64 (rg - (mn - tN))] : List Value), u.oneCell' = true := by intro u hu; simp at hu; rcases hu with rfl | rfl <;> rfl
                  have hwr : IntKind.i64.wrap (rg - (mn - tN)) = rg - (mn - tN) := by rw [IntKind.wrap_i64]; omega
                  clear hL hI
                  go_upto_region 44 with fail
                  refine wp_region_X (fun w' => w'.cell? ⟨X + 1 + 1, 2, none⟩ = some vs ∧ w'.cell? ⟨P, cN, none⟩ = some (.int .i64 rg)) 16 (by kernel_rfl) ⟨s2, PR⟩ (fun hHeld => ?_)
                  refine wpXt 0 rfl (v := ?_) (by kernel_rfl) (fun _ _ _ h => h) (by rfl) ?_ hHeld ?_
                  rotate_left
                  · intro w' hSw
                    go_simp <;> with_reducible rfl
                  try simp only [Act.put, List.setIfInBounds_toArray, List.set_cons_zero, List.set_cons_succ]
                  refine wpXt 1 rfl (v := ?_) (by kernel_rfl) (fun _ _ _ h => h) (by rfl) ?_ hHeld ?_
                  rotate_left
                  · intro w' hSw
                    go_simp <;> with_reducible rfl
                  try simp only [Act.put, List.setIfInBounds_toArray, List.set_cons_zero, List.set_cons_succ]
                  refine wpXt 2 rfl (v := ?_) (by kernel_rfl) (fun _ _ _ h => h) (by rfl) ?_ hHeld ?_
                  rotate_left
                  · intro w' hSw
                    go_simp <;> with_reducible rfl
                  try simp only [Act.put, List.setIfInBounds_toArray, List.set_cons_zero, List.set_cons_succ]
                  refine wpXt 3 rfl (v := ?_) (by kernel_rfl) (fun _ _ _ h => h) (by rfl) ?_ hHeld ?_
                  rotate_left
                  · intro w' hSw
                    go_simp <;> with_reducible rfl
                  try simp only [Act.put, List.setIfInBounds_toArray, List.set_cons_zero, List.set_cons_succ]
                  refine wpXt 4 rfl (v := ?_) (by kernel_rfl) (fun _ _ _ h => h) (by rfl) ?_ hHeld ?_
                  rotate_left
                  · intro w' hSw
                    go_simp <;> with_reducible rfl
                  try simp only [Act.put, List.setIfInBounds_toArray, List.set_cons_zero, List.set_cons_succ]
                  refine wpXt 5 rfl (v := ?_) (by kernel_rfl) (fun _ _ _ h => h) (by rfl) ?_ hHeld ?_
                  rotate_left
                  · intro w' hSw
                    go_simp <;> with_reducible rfl
                  try simp only [Act.put, List.setIfInBounds_toArray, List.set_cons_zero, List.set_cons_succ]
                  refine wpXt 6 rfl (v := ?_) (by kernel_rfl) (fun _ _ _ h => h) (by rfl) ?_ hHeld ?_
                  rotate_left
                  · intro w' hSw
                    go_simp <;> with_reducible rfl
                  try simp only [Act.put, List.setIfInBounds_toArray, List.set_cons_zero, List.set_cons_succ]
                  refine wpXt 7 rfl (v := ?_) (by kernel_rfl) (fun _ _ _ h => h) (by rfl) ?_ hHeld ?_
                  rotate_left
                  · intro w' hSw
                    go_simp <;> with_reducible rfl
                  try simp only [Act.put, List.setIfInBounds_toArray, List.set_cons_zero, List.set_cons_succ]
                  refine wpXt 8 rfl (v := ?_) (by kernel_rfl) (fun _ _ _ h => h) (by rfl) ?_ hHeld ?_
                  rotate_left
                  · intro w' hSw
                    go_simp <;> with_reducible rfl
                  try simp only [Act.put, List.setIfInBounds_toArray, List.set_cons_zero, List.set_cons_succ]
                  refine wpXt 9 rfl (v := ?_) (by kernel_rfl) (fun _ _ _ h => h) (by rfl) ?_ hHeld ?_
                  rotate_left
                  · intro w' hSw
                    go_simp <;> with_reducible rfl
                  try simp only [Act.put, List.setIfInBounds_toArray, List.set_cons_zero, List.set_cons_succ]
                  refine wpXt 10 rfl (v := ?_) (by kernel_rfl) (fun _ _ _ h => h) (by rfl) ?_ hHeld ?_
                  rotate_left
                  · intro w' hSw
                    go_simp <;> with_reducible rfl
                  try simp only [Act.put, List.setIfInBounds_toArray, List.set_cons_zero, List.set_cons_succ]
                  refine wpXt 11 rfl (v := ?_) (by kernel_rfl) (fun _ _ _ h => h) (by rfl) ?_ hHeld ?_
                  rotate_left
                  · intro w' hSw
                    go_simp <;> with_reducible rfl
                  try simp only [Act.put, List.setIfInBounds_toArray, List.set_cons_zero, List.set_cons_succ]
                  refine wpXt 12 rfl (v := ?_) (by kernel_rfl) (fun _ _ _ h => h) (by rfl) ?_ hHeld ?_
                  rotate_left
                  · intro w' hSw
                    go_simp <;> with_reducible rfl
                  try simp only [Act.put, List.setIfInBounds_toArray, List.set_cons_zero, List.set_cons_succ]
                  refine wpXs 13 rfl (by kernel_rfl) (fun K hK => ?_)
                  go_simp
                  refine hK.out _ _ ⟨cX, cP⟩ (fun hHeld => ?_)
                  clear hK K
                  try simp only [Act.put, List.setIfInBounds_toArray, List.set_cons_zero, List.set_cons_succ]
                  refine wpXs 14 rfl (by kernel_rfl) (fun K hK => ?_)
                  refine step_append_lies _ (by rfl) _ _ _ (by rfl) N 97 iR _ 2 16 Try.underlying42 hiR hzR hzR1 hzR2 rfl (by omega) vs L.length _ (by rfl) oA ⟨wr.heap.size, 0, none⟩ 1 1 [.int .i64 cN, .int .i64 (rg - (mn - tN))] (by rfl) (by rfl) HN.out h1c (by omega) (by unfold maxLen; omega) (by omega) (by simp; omega) (wr.heap.size + 1) (by simp) ?_
                  intro g cap wb hown hgrow hat hgl
                  have x0' := (hgrow.cell_far _ lX' nX).trans cX
                  have xz' := (hgrow.frozen_far _ lX' nX).trans cZ
                  have xP' := (hgrow.cell_far _ lP' nP).trans cP
                  refine hK.out _ _ ⟨x0', xP'⟩ (fun hHeld => ?_)
                  clear hK K
                  try simp only [Act.put, List.setIfInBounds_toArray, List.set_cons_zero, List.set_cons_succ]
                  refine wpXt 15 rfl (v := ?_) (by kernel_rfl) (fun _ _ _ h => h) (by rfl) ?_ hHeld ?_
                  rotate_left
                  · intro w' hSw
                    go_simp <;> with_reducible rfl
                  try simp only [Act.put, List.setIfInBounds_toArray, List.set_cons_zero, List.set_cons_succ]
                  refine wpXl 16 rfl (by kernel_rfl) rfl (by kernel_rfl) (fun K hK => ?_)
                  go_simp
                  refine hK.out _ _ ?_
                  clear hK K
                  have hP := HI1.out.pushS (r := ⟨cN, rg - (mn - tN)⟩) (((Below.refl _ _).alloc (Nat.le_refl _) (.cells #[.int .i64 cN, .int .i64 (rg - (mn - tN))] 97)).drew) hgrow hown (by simpa using hat)
                  have HP : Hid (MIn N κ w X P { s with f := ⟨vals, s.f.blocks⟩ } p pop (upK κr g 5) (wb.setCell ⟨X + 1 + 1, 2, none⟩ (.slice (some ⟨g, 0, none⟩) (L.length + 1) cap)) x (spC s p x cN ++ (List.range (tN + 1)).map fun (i : Nat) => (⟨cN, rg - (mn - i)⟩ : Rg)) vo (.slice (some ⟨g, 0, none⟩) (L.length + 1) cap)) := by
                    have h1 := hP
                    rw [← HL.out, List.append_assoc, ← HSN.out] at h1
                    rw [← HL.out]
                    exact h1
                  clear hP hown hgrow hat hgl oA own cX cZ cP x0' xz' xP' LX LP s2 sz PR
                  go_wp2
                  go_roundw
                  case rel => exact ⟨tN + 1, _, _, Or.inr (by omega), by go_num, HP⟩
                  case measure => simp [intOf]; omega
                · have HE2 : Hid (MIn N κ w X P { s with f := ⟨vals, s.f.blocks⟩ } p pop κr wr x (spC s p x (cN + 1)) vo vs) := by
                    have h1 := HI1.out
                    have e : tN = mn.toNat := by omega
                    rw [e] at h1
                    rw [HSE.out]
                    exact h1
                  clear HI1
                  go_wp2
                  go_roundw
                  case rel => exact ⟨cN + 1, _, _, by omega, by go_num, HE2⟩
                  case measure => simp [intOf]; omega
            · have hc3 : cN = 2 := by omega
              subst hc3
              have HIe : Hid (MIn N κ w X P { s with f := ⟨vals, s.f.blocks⟩ } p pop κr wr x (spC s p x 2) vo vs) := HI1
              have hspl : (spC s p x 2).length ≤ 1000 := by
                simp only [spC, List.length_append, spoils_len]
                rw [HPB4.out]
                omega
              clear HI1
              have hFin := fun w' ho => HIe.out.fin (w' := w') ho (by omega) hspl
              have HFin : Hid (∀ w', Off (fun b => b = X + 1) wr w' → ∃ κ', MaO N κ' w' P { s with f := ⟨vals, s.f.blocks⟩ } ∧ Only MR κ κ' w w' ∧ SlK κ' w' 5 ROpr vo x.ops ∧ SlK κ' w' 2 RRg vs (spC s p x 2)) := hFin
              have E0 : wr.cell? ⟨X + 1 + 1, 0, none⟩ = some (.int .i64 pop) := HIe.out.rx.cell (i := 0) (by omega)
              have E1 : wr.cell? ⟨X + 1 + 1, 1, none⟩ = some vo := HIe.out.rx.cell (i := 1) (by omega)
              have E2 : wr.cell? ⟨X + 1 + 1, 2, none⟩ = some vs := HIe.out.rx.cell (i := 2) (by omega)
              have F0 : wr.cell? ⟨X + 1, 0, none⟩ = some (.int .i64 0) := HIe.out.rr.cell (i := 0) (by omega)
              have F1 : wr.cell? ⟨X + 1, 1, none⟩ = some (.slice none 0 0) := HIe.out.rr.cell (i := 1) (by omega)
              have F2 : wr.cell? ⟨X + 1, 2, none⟩ = some (.slice none 0 0) := HIe.out.rr.cell (i := 2) (by omega)
              have FZ0 := HIe.out.rr.frozen 0
              have FZ1 := HIe.out.rr.frozen 1
              have FZ2 := HIe.out.rr.frozen 2
              clear hFin
              obtain ⟨avo, nvo, cvo, rfl⟩ : ∃ a n c, vo = .slice a n c := by
                have := (own_oprs _ HIe.out.oo (by unfold longest; omega)).out
                obtain ⟨a, c, h, _⟩ := this
                exact ⟨_, _, _, h⟩
              obtain ⟨avs, nvs, cvs, rfl⟩ : ∃ a n c, vs = .slice a n c := by
                have := (own_rgs _ HIe.out.os (by unfold longest; omega)).out
                obtain ⟨a, c, h, _⟩ := this
                exact ⟨_, _, _, h⟩
              go_wp2
              obtain ⟨κ', hMe, hOe, h5e, h2e⟩ := HFin.out (((wr.setCell ⟨X + 1, 0, none⟩ (.int .i64 pop)).setCell ⟨X + 1, 1, none⟩ (.slice avo nvo cvo)).setCell ⟨X + 1, 2, none⟩ (.slice avs nvs cvs)) ((((Off.of_below (A := fun b => b = X + 1) (Below.refl _ _)).setA (a := X + 1) rfl _ _).setA (a := X + 1) rfl _ _).setA (a := X + 1) rfl _ _)
              have hlX : X + 1 < wr.heap.size := by have := HIe.out.lt; omega
              first | refine bodyPost_ret (v := .agg #[.int .i64 pop, .slice avo nvo cvo, .slice avs nvs cvs]) ?_ rfl ⟨_, _, by rw [HRE.out], κ', by rw [HRE.out]; exact hMe, hOe, by rw [HRE.out]; exact h5e, by rw [HRE.out]; exact h2e⟩ | refine bodyPost_ret (v := .agg #[.int .i64 pop, .slice avo nvo cvo, .slice avs nvs cvs]) ?_ rfl ⟨_, _, κ', by rw [HRE.out], by rw [HRE.out]; exact hMe, hOe, by rw [HRE.out]; exact h5e, by rw [HRE.out]; exact h2e⟩
              have rr9 : (((wr.setCell ⟨X + 1, 0, none⟩ (.int .i64 pop)).setCell ⟨X + 1, 1, none⟩ (.slice avo nvo cvo)).setCell ⟨X + 1, 2, none⟩ (.slice avs nvs cvs)).rowIs (X + 1) 44 3 (insRow pop (.slice avo nvo cvo) (.slice avs nvs cvs)) := (((HIe.out.rr.set 0 _).set 1 _).set 2 _).congr fun q hq => by match q, hq with | 0, _ => rfl | 1, _ => rfl | 2, _ => rfl
              have g0 := rr9.cell (i := 0) (by omega)
              have g1 := rr9.cell (i := 1) (by omega)
              have g2 := rr9.cell (i := 2) (by omega)
              simp only [insRow] at g0 g1 g2
              simp [results, Try.results26, go_sem, g0, g1, g2]
        · have hsp : spM s p pfl x = [] := by unfold spM; rw [if_neg h3]
          obtain ⟨vs, hvs⟩ : ∃ vs, (.slice none 0 0 : Value) = vs := ⟨_, rfl⟩
          have HIe : Hid (MIn N κ w X P { s with f := ⟨vals, s.f.blocks⟩ } p pop κr wr x [] vo vs) := by rw [← hvs]; exact HI1
          have HRE : Hid (r = (⟨pop, x.ops, []⟩, vals)) := by have := HR2.out; rw [hsp] at this; exact this
          have hspl : ([] : List Rg).length ≤ 1000 := by simp
          clear hvs HI1 hsp HR2
          have hFin := fun w' ho => HIe.out.fin (w' := w') ho (by omega) hspl
          have HFin : Hid (∀ w', Off (fun b => b = X + 1) wr w' → ∃ κ', MaO N κ' w' P { s with f := ⟨vals, s.f.blocks⟩ } ∧ Only MR κ κ' w w' ∧ SlK κ' w' 5 ROpr vo x.ops ∧ SlK κ' w' 2 RRg vs ([])) := hFin
          have E0 : wr.cell? ⟨X + 1 + 1, 0, none⟩ = some (.int .i64 pop) := HIe.out.rx.cell (i := 0) (by omega)
          have E1 : wr.cell? ⟨X + 1 + 1, 1, none⟩ = some vo := HIe.out.rx.cell (i := 1) (by omega)
          have E2 : wr.cell? ⟨X + 1 + 1, 2, none⟩ = some vs := HIe.out.rx.cell (i := 2) (by omega)
          have F0 : wr.cell? ⟨X + 1, 0, none⟩ = some (.int .i64 0) := HIe.out.rr.cell (i := 0) (by omega)
          have F1 : wr.cell? ⟨X + 1, 1, none⟩ = some (.slice none 0 0) := HIe.out.rr.cell (i := 1) (by omega)
          have F2 : wr.cell? ⟨X + 1, 2, none⟩ = some (.slice none 0 0) := HIe.out.rr.cell (i := 2) (by omega)
          have FZ0 := HIe.out.rr.frozen 0
          have FZ1 := HIe.out.rr.frozen 1
          have FZ2 := HIe.out.rr.frozen 2
          clear hFin
          obtain ⟨avo, nvo, cvo, rfl⟩ : ∃ a n c, vo = .slice a n c := by
            have := (own_oprs _ HIe.out.oo (by unfold longest; omega)).out
            obtain ⟨a, c, h, _⟩ := this
            exact ⟨_, _, _, h⟩
          obtain ⟨avs, nvs, cvs, rfl⟩ : ∃ a n c, vs = .slice a n c := by
            have := (own_rgs _ HIe.out.os (by unfold longest; omega)).out
            obtain ⟨a, c, h, _⟩ := this
            exact ⟨_, _, _, h⟩
          go_wp2
          obtain ⟨κ', hMe, hOe, h5e, h2e⟩ := HFin.out (((wr.setCell ⟨X + 1, 0, none⟩ (.int .i64 pop)).setCell ⟨X + 1, 1, none⟩ (.slice avo nvo cvo)).setCell ⟨X + 1, 2, none⟩ (.slice avs nvs cvs)) ((((Off.of_below (A := fun b => b = X + 1) (Below.refl _ _)).setA (a := X + 1) rfl _ _).setA (a := X + 1) rfl _ _).setA (a := X + 1) rfl _ _)
          have hlX : X + 1 < wr.heap.size := by have := HIe.out.lt; omega
          first | refine bodyPost_ret (v := .agg #[.int .i64 pop, .slice avo nvo cvo, .slice avs nvs cvs]) ?_ rfl ⟨_, _, by rw [HRE.out], κ', by rw [HRE.out]; exact hMe, hOe, by rw [HRE.out]; exact h5e, by rw [HRE.out]; exact h2e⟩ | refine bodyPost_ret (v := .agg #[.int .i64 pop, .slice avo nvo cvo, .slice avs nvs cvs]) ?_ rfl ⟨_, _, κ', by rw [HRE.out], by rw [HRE.out]; exact hMe, hOe, by rw [HRE.out]; exact h5e, by rw [HRE.out]; exact h2e⟩
          have rr9 : (((wr.setCell ⟨X + 1, 0, none⟩ (.int .i64 pop)).setCell ⟨X + 1, 1, none⟩ (.slice avo nvo cvo)).setCell ⟨X + 1, 2, none⟩ (.slice avs nvs cvs)).rowIs (X + 1) 44 3 (insRow pop (.slice avo nvo cvo) (.slice avs nvs cvs)) := (((HIe.out.rr.set 0 _).set 1 _).set 2 _).congr fun q hq => by match q, hq with | 0, _ => rfl | 1, _ => rfl | 2, _ => rfl
          have g0 := rr9.cell (i := 0) (by omega)
          have g1 := rr9.cell (i := 1) (by omega)
          have g2 := rr9.cell (i := 2) (by omega)
          simp only [insRow] at g0 g1 g2
          simp [results, Try.results26, go_sem, g0, g1, g2]

end Go.Proofs.Ytglfpnnfcpnmoaa
