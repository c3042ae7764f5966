/-
  The walk of OrderFan.
-/
import Derived.Test.YtdlglinbjkaokaaOrU
namespace Go.Proofs.Ytdlglinbjkaokaa
open Go.RowKit
set_option linter.unusedVariables false

theorem reg_place (n : Int) (w : World) : Calls Try.prog 20 #[.int .i64 n] w fun e w' => e = .returned (.agg #[.int .i64 1, .int .i64 0, .int .i64 n]) ∧ Below w.heap.size w w' := by
  have hb : Below w.heap.size w (w.alloc (.cells #[.int .i64 1, .int .i64 0, .int .i64 n] 34)) := (Below.refl _ _).alloc (Nat.le_refl _) _
  go_enter Try.func20, Try.ntmps20
  go_wp2
  exact bodyPost_ret (v := .agg #[.int .i64 1, .int .i64 0, .int .i64 n]) (by simp [results, Try.results20, go_sem]) rfl ⟨rfl, hb⟩
theorem slot_place (n : Int) (w : World) : Calls Try.prog 21 #[.int .i64 n] w fun e w' => e = .returned (.agg #[.int .i64 2, .int .i64 0, .int .i64 n]) ∧ Below w.heap.size w w' := by
  have hb : Below w.heap.size w (w.alloc (.cells #[.int .i64 2, .int .i64 0, .int .i64 n] 34)) := (Below.refl _ _).alloc (Nat.le_refl _) _
  go_enter Try.func21, Try.ntmps21
  go_wp2
  exact bodyPost_ret (v := .agg #[.int .i64 2, .int .i64 0, .int .i64 n]) (by simp [results, Try.results21, go_sem]) rfl ⟨rfl, hb⟩
def fanM (f : Int) (j : Nat) : Mv := ⟨⟨1, 0, f⟩, ⟨1, 0, (j : Int)⟩⟩
def fanS (f : Int) (j : Nat) : Mv := ⟨⟨1, 0, f⟩, ⟨2, 0, (j : Int)⟩⟩
theorem reg_real {R fr n : Int} (h0 : 0 ≤ n) (h1 : n < R) : RealP R R fr ⟨1, 0, n⟩ := by
  refine Or.inl ⟨rfl, Or.inl rfl, h0, ?_⟩
  show n < regsR R R 0
  unfold regsR
  rw [if_pos rfl]
  exact h1
theorem slot_real {R fr n : Int} (h0 : 0 ≤ n) (h1 : n < fr) : RealP R R fr ⟨2, 0, n⟩ := Or.inr ⟨rfl, rfl, h0, h1⟩
theorem chk_zero {R fr : Int} {m : Mv} (h1 : RealP R R fr m.src) (h2 : RealP R R fr m.dst) (c1 : m.src.cls = 0) (c2 : m.dst.cls = 0) : chkE R R fr m 0 = 0 := by
  have a := real_iff.2 h1
  have b := real_iff.2 h2
  unfold chkE holdO
  rw [if_neg (by omega), if_neg (by omega), if_neg (by simp only [a]; simp), if_neg (by simp only [b]; simp), if_neg (by simp [suitO, c1]), if_neg (by simp [suitO, c2])]
theorem cell_src {W w : World} {G : Nat} {r0 r1 fr : Int} {l done : List Mv} (k : CellI W G r0 r1 fr (runMvs id done) w) (h : RightO r0 r1 fr l done) {q p : Pl} (hq : RealP r0 r1 fr q) (hs : srcOf l q = p) {c : Nat} (hc : cellK q = (c : Int)) (h2 : c < 200) : w.cell? ⟨G, c, none⟩ = some (.int .i64 (cellK p)) := by
  obtain ⟨hf, rr, hh⟩ := k.row
  have a := hh q hq.may
  rw [h.val q hq, hs, hc, Int.toNat_natCast] at a
  have b := rr.cell (i := c) h2
  rw [a] at b
  exact b
def fanL (f : Int) (r s : Nat) : List Mv := mvF (fanM f) r ++ mvF (fanS f) s
theorem fanL_len (f : Int) (r s : Nat) : (fanL f r s).length = r + s := by unfold fanL; rw [List.length_append, mvF_len, mvF_len]
theorem fanL_nd (f : Int) (r s : Nat) : (dsts (fanL f r s)).Nodup := by
  have h1 : (dsts (mvF (fanM f) r)).Nodup := mvF_nd fun a b _ _ h => by
    have := congrArg Pl.n h
    unfold fanM at this
    simp only at this
    omega
  have h2 : (dsts (mvF (fanS f) s)).Nodup := mvF_nd fun a b _ _ h => by
    have := congrArg Pl.n h
    unfold fanS at this
    simp only at this
    omega
  unfold fanL
  have e : dsts (mvF (fanM f) r ++ mvF (fanS f) s) = dsts (mvF (fanM f) r) ++ dsts (mvF (fanS f) s) := by unfold dsts; rw [List.map_append]
  rw [e]
  refine List.nodup_append.2 ⟨h1, h2, fun p hp q hq e => ?_⟩
  obtain ⟨m1, hm1, rfl⟩ := List.mem_map.1 hp
  obtain ⟨m2, hm2, rfl⟩ := List.mem_map.1 hq
  obtain ⟨i1, _, rfl⟩ := mvF_mem.1 hm1
  obtain ⟨i2, _, rfl⟩ := mvF_mem.1 hm2
  have := congrArg Pl.kind e
  unfold fanM fanS at this
  simp only at this
  omega
theorem fanL_mem {f : Int} {r s : Nat} {m : Mv} : m ∈ fanL f r s ↔ (∃ i, i < r ∧ fanM f i = m) ∨ (∃ i, i < s ∧ fanS f i = m) := by
  unfold fanL
  rw [List.mem_append, mvF_mem, mvF_mem]
theorem fanL_src_reg {f : Int} {r s i : Nat} (hi : i < r) : srcOf (fanL f r s) ⟨1, 0, (i : Int)⟩ = ⟨1, 0, f⟩ := srcOf_mem (fanL_nd f r s) (m := fanM f i) (fanL_mem.2 (Or.inl ⟨i, hi, rfl⟩))
theorem fanL_src_slot {f : Int} {r s i : Nat} (hi : i < s) : srcOf (fanL f r s) ⟨2, 0, (i : Int)⟩ = ⟨1, 0, f⟩ := srcOf_mem (fanL_nd f r s) (m := fanS f i) (fanL_mem.2 (Or.inr ⟨i, hi, rfl⟩))
theorem fan_some {R : Nat} {f : Int} {s : Nat} {done : List Mv} (hR : 2 ≤ R) (h : RightO (R : Int) (R : Int) (s : Int) (fanL f R s) done) : 0 < done.length := by
  refine Nat.pos_of_ne_zero fun e => ?_
  have e0 : done = [] := List.length_eq_zero_iff.1 e
  subst e0
  have h0 := h.val ⟨1, 0, ((0 : Nat) : Int)⟩ (reg_real (by omega) (by omega))
  have h1 := h.val ⟨1, 0, ((1 : Nat) : Int)⟩ (reg_real (by omega) (by omega))
  rw [fanL_src_reg (by omega)] at h0 h1
  have a := congrArg Pl.n h0
  have b := congrArg Pl.n h1
  simp [runMvs] at a b
  omega
set_option maxRecDepth 8000 in
set_option maxHeartbeats 32000000 in
theorem orderFan_walk (a : Int) (wa : (Lit.int .i64 a).wf = true) (n : Int) (wn : (Lit.int .i64 n).wf = true) (q : Int) (wq : (Lit.int .i64 q).wf = true) (w : World) :
    Calls Try.prog 8 #[.int .i64 a, .int .i64 n, .int .i64 q] w fun e w' => e = .returned (.bool true) ∧ Below w.heap.size w w' := by
  have bds : ∀ x : Int, (Lit.int .i64 x).wf = true → -9223372036854775808 ≤ x ∧ x ≤ 9223372036854775807 := fun x hx => by
    simp only [Lit.wf, IntKind.min, IntKind.max, IntKind.signed, IntKind.bits, Bool.and_eq_true, decide_eq_true_eq, if_true] at hx
    exact ⟨by omega, by omega⟩
  obtain ⟨a1, a2⟩ := bds a wa
  obtain ⟨n1, n2⟩ := bds n wn
  obtain ⟨q1, q2⟩ := bds q wq
  obtain ⟨p0, p1⟩ := pickedOf_bd a 9 (by omega)
  obtain ⟨RN, hR⟩ : ∃ RN : Nat, 2 + pickedOf a 9 = (RN : Int) := ⟨(2 + pickedOf a 9).toNat, by omega⟩
  have hR1 : 2 ≤ RN := by omega
  have hR2 : RN ≤ 10 := by omega
  obtain ⟨f, hf⟩ : ∃ f, pickedOf n (RN : Int) = f := ⟨_, rfl⟩
  have hf0 : 0 ≤ f ∧ f < (RN : Int) := by rw [← hf]; exact pickedOf_bd n (RN : Int) (by omega)
  obtain ⟨s, hs⟩ : ∃ s : Nat, pickedOf q 6 = (s : Int) := ⟨(pickedOf q 6).toNat, by have := pickedOf_bd q 6 (by omega); omega⟩
  have hs6 : s < 6 := by have := pickedOf_bd q 6 (by omega); omega
  have HMA := machine_any a a w a1 a2 a1 a2
  rw [hR] at HMA
  have HPN := fun W' => picked_is n (RN : Int) f W' hf n1 n2 (by omega) (by omega)
  have HPC := fun W' => picked_is q 6 (s : Int) W' hs q1 q2 (by omega) (by omega)
  have HOE : Hid (ordE (RN : Int) (RN : Int) (s : Int) (fanL f RN s) (List.replicate (RN + s) 0) = 0) := by
    have h := ordE_rep (R := (RN : Int)) (fr := (s : Int)) (l := fanL f RN s) (c := 0) (by omega) (by omega) (by omega) (by rw [fanL_len]; omega) (fun m hm => by
      rcases fanL_mem.1 hm with ⟨i, hi, rfl⟩ | ⟨i, hi, rfl⟩
      · exact chk_zero (reg_real hf0.1 hf0.2) (reg_real (by omega) (by omega)) rfl rfl
      · exact chk_zero (reg_real hf0.1 hf0.2) (slot_real (by omega) (by omega)) rfl rfl) (fanL_nd f RN s)
    rw [fanL_len] at h
    exact h
  have hfa : 0 ≤ f := hf0.1
  have hfb : f < (RN : Int) := hf0.2
  clear hR hs hf p0 p1 hf0
  go_enter Try.func8, Try.ntmps8
  --CUT1
  go_wp2_with fail
  refine HMA.mono ?_
  clear HMA
  rintro e w1 ⟨rfl, hb1⟩
  obtain ⟨M, hM⟩ : ∃ M, w1.heap.size = M := ⟨_, rfl⟩
  obtain ⟨W, hW⟩ : ∃ W, W = w1.alloc (.cells #[.int .i64 (RN : Int), .int .i64 (RN : Int)] 24) := ⟨_, rfl⟩
  have hbW : Below w1.heap.size w1 W := by rw [hW]; exact (Below.refl _ _).alloc (Nat.le_refl _) _
  have tW := topO w1 #[.int .i64 (RN : Int), .int .i64 (RN : Int)] 24
  rw [← hW, hM] at tW
  have zM : M < W.heap.size := by rw [hW, ← hM]; simp
  have m0 : W.cell? ⟨M, 0, none⟩ = some (.int .i64 (RN : Int)) := tW 0
  have m1 : W.cell? ⟨M, 1, none⟩ = some (.int .i64 (RN : Int)) := tW 1
  have HW : Hid (W = w1.alloc (.cells #[.int .i64 (RN : Int), .int .i64 (RN : Int)] 24)) := hW
  have HM : Hid (w1.heap.size = M) := hM
  have HBW : Hid (Below w.heap.size w W) := hb1.trans (hbW.mono hb1.size)
  clear hM hW hbW tW hb1
  go_upto_region 2 with fail
  rw [← HW.out, HM.out]
  have HGT0 : Hid (GrT W W.heap.size (.slice none 0 0) (.slice none 0 0) (mvF (fanM f) 0) (List.replicate 0 0) W) := GrT.nil W
  --CUT2
  go_upto_region 3 with (go_at_call 15; refine (HPN _).mono ?_; rintro e w' ⟨rfl, hw'⟩; rw [hw']; clear hw' w')
  --CUT3
  go_upto_region 7 with (go_at_call 15; refine (HPC _).mono ?_; rintro e w' ⟨rfl, hw'⟩; rw [hw']; clear hw' w')
  --CUT4
  go_loopw [12, 10, 11] (fun i s v wr => ∃ (j : Nat) (a6 : Option Addr) (c6 : Nat) (a7 : Option Addr) (c7 : Nat), j ≤ RN ∧ i = .int .i64 j ∧ s = .slice a6 j c6 ∧ v = .slice a7 j c7 ∧ Hid (GrT W W.heap.size (.slice a6 j c6) (.slice a7 j c7) (mvF (fanM f) j) (List.replicate j 0) wr)) (fun i _ _ _ => RN - (intOf i).toNat)
  case atStart => exact ⟨0, none, 0, none, 0, Nat.zero_le _, rfl, rfl, rfl, HGT0⟩
  case round =>
    clear HGT0
    obtain ⟨j, a6, c6, a7, c7, hj, rfl, rfl, rfl, HI⟩ := hrel
    have n0 := (HI.out.low.cell (p := ⟨M, 0, none⟩) zM).trans m0
    by_cases hlt : j < RN
    · --CUT5
      go_wp2_with fail
      go_at_call 20
      refine (reg_place f _).mono ?_
      rintro e w2 ⟨rfl, hb2⟩
      go_wp2_with fail
      go_at_call 20
      refine (reg_place (j : Int) _).mono ?_
      rintro e w3 ⟨rfl, hb3⟩
      have HI := HI.out.below (hb2.trans (hb3.mono hb2.size))
      clear hb2 hb3
      have ho6 := HI.o6
      rw [mvF_len] at ho6
      obtain ⟨g6, cap6, w4, hr6, o6, hg6, at6⟩ := app_moves ho6 HI.le [fanM f j] #[.int .i64 1, .int .i64 0, .int .i64 f, .int .i64 1, .int .i64 0, .int .i64 (j : Int)] rfl 1 rfl (by omega) (by omega) 1 25
      have k3 := HI.push6 (m := fanM f j) (by rw [mvF_len]; exact o6) hg6 at6
      rw [mvF_len] at k3
      have ho7 := k3.o7
      rw [List.length_replicate] at ho7
      obtain ⟨g7, cap7, w5, hr7, o7, hg7, at7⟩ := app_int ho7 k3.le 0 (by omega) 26
      have k4 := k3.push7 (x := 0) (by rw [List.length_replicate]; exact o7) hg7 at7
      rw [List.length_replicate] at k4
      have HE : Hid (GrT W W.heap.size (.slice (some ⟨g6, 0, none⟩) (j + 1) cap6) (.slice (some ⟨g7, 0, none⟩) (j + 1) cap7) (mvF (fanM f) (j + 1)) (List.replicate (j + 1) 0) w5) := by
        show GrT _ _ _ _ _ _ _
        rw [mvF_succ, rep_succ]
        exact k4
      clear HI ho6 o6 hg6 at6 k3 ho7 o7 hg7 at7 k4
      --CUT6
      go_wp2_with (first | (at_builtin; refine wpL_append rfl _ _ _ rfl rfl rfl hr6 ?_) | (at_builtin; refine wpL_append rfl _ _ _ rfl rfl rfl hr7 ?_))
      --CUT7
      exact ⟨⟨j + 1, _, _, _, _, by omega, by simp, rfl, rfl, HE⟩, by simp [intOf]; omega⟩
    · have hjn : RN = j := by omega
      subst hjn
      have HGT1 : Hid (GrT W W.heap.size (.slice a6 RN c6) (.slice a7 RN c7) (fanL f RN 0) (List.replicate (RN + 0) 0) wr) := by
        have h := HI.out
        have e : fanL f RN 0 = mvF (fanM f) RN := by unfold fanL; simp [mvF]
        show GrT _ _ _ _ _ _ _
        rw [e]
        exact h
      clear HI
      --CUT8
      go_upto_region 12 with fail
      --CUT9
      go_loopw [13, 10, 11] (fun i sx v wr => ∃ (j : Nat) (a6 : Option Addr) (c6 : Nat) (a7 : Option Addr) (c7 : Nat), j ≤ s ∧ i = .int .i64 j ∧ sx = .slice a6 (RN + j) c6 ∧ v = .slice a7 (RN + j) c7 ∧ Hid (GrT W W.heap.size (.slice a6 (RN + j) c6) (.slice a7 (RN + j) c7) (fanL f RN j) (List.replicate (RN + j) 0) wr)) (fun i _ _ _ => s - (intOf i).toNat)
      case atStart => exact ⟨0, a6, c6, a7, c7, Nat.zero_le _, rfl, rfl, rfl, HGT1⟩
      case round =>
        clear HGT1 n0
        obtain ⟨j, a6, c6, a7, c7, hj, rfl, rfl, rfl, HI⟩ := hrel
        by_cases hlt : j < s
        · go_wp2_with fail
          go_at_call 20
          refine (reg_place f _).mono ?_
          rintro e w2 ⟨rfl, hb2⟩
          go_wp2_with fail
          go_at_call 21
          refine (slot_place (j : Int) _).mono ?_
          rintro e w3 ⟨rfl, hb3⟩
          have HI := HI.out.below (hb2.trans (hb3.mono hb2.size))
          clear hb2 hb3
          have ho6 := HI.o6
          rw [fanL_len] at ho6
          obtain ⟨g6, cap6, w4, hr6, o6, hg6, at6⟩ := app_moves ho6 HI.le [fanS f j] #[.int .i64 1, .int .i64 0, .int .i64 f, .int .i64 2, .int .i64 0, .int .i64 (j : Int)] rfl 1 rfl (by omega) (by omega) 1 25
          have k3 := HI.push6 (m := fanS f j) (by rw [fanL_len]; exact o6) hg6 at6
          rw [fanL_len] at k3
          have ho7 := k3.o7
          rw [List.length_replicate] at ho7
          obtain ⟨g7, cap7, w5, hr7, o7, hg7, at7⟩ := app_int ho7 k3.le 0 (by omega) 26
          have k4 := k3.push7 (x := 0) (by rw [List.length_replicate]; exact o7) hg7 at7
          rw [List.length_replicate] at k4
          have HE : Hid (GrT W W.heap.size (.slice (some ⟨g6, 0, none⟩) (RN + (j + 1)) cap6) (.slice (some ⟨g7, 0, none⟩) (RN + (j + 1)) cap7) (fanL f RN (j + 1)) (List.replicate (RN + (j + 1)) 0) w5) := by
            have e : fanL f RN (j + 1) = fanL f RN j ++ [fanS f j] := by unfold fanL; rw [mvF_succ, List.append_assoc]
            show GrT _ _ _ _ _ _ _
            rw [e, ← Nat.add_assoc, rep_succ]
            exact k4
          clear HI ho6 o6 hg6 at6 k3 ho7 o7 hg7 at7 k4
          go_wp2_with (first | (at_builtin; refine wpL_append rfl _ _ _ rfl rfl rfl hr6 ?_) | (at_builtin; refine wpL_append rfl _ _ _ rfl rfl rfl hr7 ?_))
          --CUT10
          exact ⟨⟨j + 1, _, _, _, _, by omega, by simp, rfl, rfl, HE⟩, by simp [intOf]; omega⟩
        · have hjn : s = j := by omega
          subst hjn
          obtain ⟨sl1, sl2⟩ := HI.out.sl (by rw [fanL_len]; unfold longest; omega) (by rw [List.length_replicate]; unfold longest; omega)
          have HO := order_any (RN : Int) (RN : Int) (s : Int) _ _ _ _ wr sl1 sl2 (fun m hm => by
            rcases fanL_mem.1 hm with ⟨i, hi, rfl⟩ | ⟨i, hi, rfl⟩
            · refine ⟨⟨?_, ?_, ?_⟩, ⟨?_, ?_, ?_⟩⟩ <;> (unfold fanM I64) <;> simp only <;> constructor <;> omega
            · refine ⟨⟨?_, ?_, ?_⟩, ⟨?_, ?_, ?_⟩⟩ <;> (unfold fanS I64) <;> simp only <;> constructor <;> omega)
          rw [HOE.out] at HO
          have n0 := (HI.out.low.cell (p := ⟨M, 0, none⟩) zM).trans m0
          have n1' := (HI.out.low.cell (p := ⟨M, 1, none⟩) zM).trans m1
          have hMr : M < wr.heap.size := Nat.lt_of_lt_of_le zM HI.out.le
          have HBr : Hid (Below w.heap.size w wr) := HBW.out.trans (HI.out.low.mono HBW.out.size)
          clear HI sl1 sl2 m0 m1
          --CUT11
          go_upto_region 17 with (go_at_call 10; refine HO.mono ?_; clear HO; rintro e w6 ⟨hb6, v6, rfl, -, hv6⟩)
          --CUT12
          obtain ⟨done, hsl, hrt⟩ := hv6 trivial
          obtain ⟨ao, co, rfl, -⟩ := hsl.out
          obtain ⟨no, hno⟩ : ∃ no, done.length = no := ⟨_, rfl⟩
          rw [hno] at hsl ⊢
          have HNP : Hid (0 < no) := by have := fan_some hR1 hrt; rw [hno] at this; exact this
          have HONE : Hid (SlOf w6 6 RMv (.slice ao no co) done ∧ done.length = no ∧ RightO (RN : Int) (RN : Int) (s : Int) (fanL f RN s) done) := ⟨hsl, hno, hrt⟩
          have HRB : Hid ((RN : Int) ≤ 10 ∧ (RN : Int) ≤ 10 ∧ (s : Int) ≤ 50) := ⟨by omega, by omega, by omega⟩
          have hno2 : no ≤ 1000000 := by have := hrt.len; rw [fanL_len] at this; omega
          have hM6 : M < w6.heap.size := Nat.lt_of_lt_of_le hMr hb6.size
          have HMC : Hid (w6.cell? ⟨M, 0, none⟩ = some (.int .i64 (RN : Int))) := (hb6.cell (p := ⟨M, 0, none⟩) hMr).trans n0
          have HB6 : Hid (Below w.heap.size w w6) := HBr.out.trans (hb6.mono HBr.out.size)
          clear hv6 hsl hno hrt hb6 n0 n1' HBr HOE hMr zM
          --CUT13
          obtain ⟨G, hG⟩ : ∃ G, w6.heap.size = G := ⟨_, rfl⟩
          obtain ⟨W9, hW9⟩ : ∃ W9, W9 = w6.alloc (.cells (madeCells #[.int .i64 0] 200) 3) := ⟨_, rfl⟩
          have hb9 : Below w6.heap.size w6 W9 := by rw [hW9]; exact (Below.refl _ _).alloc (Nat.le_refl _) _
          have rG := World.rowIs_made w6 (.int .i64 0) 200 3
          rw [← hW9, hG] at rG
          have hmk := run_make_row' (P := Try.prog) 26 3 (.int .i64 0) 8 Try.underlying26 (by kernel_rfl) rfl .i64 .i64 200 (by omega) (by omega)
          simp only [show ((200 : Nat) : Int) = 200 from rfl] at hmk
          have HG0 : Hid (Kq G G G nilV nilV W9 W9 ∧ W9.rowIs G 3 200 (fun i => if i < 0 then .int .i64 (i : Int) else .int .i64 0)) := ⟨Kq.refl _ _ _ _ _, rG.congr fun i hi => by simp⟩
          have HW9 : Hid (W9 = w6.alloc (.cells (madeCells #[.int .i64 0] 200) 3)) := hW9
          have HGG : Hid (w6.heap.size = G) := hG
          have HB9 : Hid (Below w6.heap.size w6 W9) := hb9
          clear hG hW9 hb9 rG
          go_upto_region 19 with fail
          rw [← HW9.out, HGG.out]
          --CUTg1
          go_loopw [77] (fun i wr => ∃ j : Nat, j ≤ 200 ∧ i = .int .i64 j ∧ Hid (Kq G G G nilV nilV W9 wr ∧ wr.rowIs G 3 200 (fun i => if i < j then .int .i64 (i : Int) else .int .i64 0))) (fun i _ => 200 - (intOf i).toNat)
          case atStart => exact ⟨0, Nat.zero_le _, rfl, HG0.out⟩
          case round =>
            clear HG0 hmk
            obtain ⟨j, hj, rfl, HI⟩ := hrel
            by_cases hlt : j < 200
            · have r1 := HI.out.2.cell (i := j) hlt
              have r2 := HI.out.2.frozen j
              rw [if_neg (Nat.lt_irrefl j)] at r1
              have HE : Hid (Kq G G G nilV nilV W9 (wr.setCell ⟨G, j, none⟩ (.int .i64 (j : Int))) ∧ (wr.setCell ⟨G, j, none⟩ (.int .i64 (j : Int))).rowIs G 3 200 (fun i => if i < j + 1 then .int .i64 (i : Int) else .int .i64 0)) := by
                have h := HI.out.1
                refine ⟨⟨h.os, h.tape, h.output, by simpa [World.setCell] using h.size, fun q hq n1 n2 n3 n4 => (Below.heap_setCell _ _ _ _ (by show q ≠ G; exact n1)).trans (h.block q hq n1 n2 n3 n4), h.own⟩, (HI.out.2.set j _).congr fun i hi => ?_⟩
                by_cases e : i = j
                · subst e
                  simp
                · rw [if_neg e]
                  by_cases e2 : i < j
                  · rw [if_pos e2, if_pos (by omega)]
                  · rw [if_neg e2, if_neg (by omega)]
              clear HI
              go_wp2
              exact ⟨⟨j + 1, by omega, by simp, HE.out⟩, by simp [intOf]; omega⟩
            · have hjn : j = 200 := by omega
              subst hjn
              have HI3 : Hid (CellI W9 G (RN : Int) (RN : Int) (s : Int) (runMvs id (done.take 0)) wr) := by
                refine CellI.start HRB.out.1 HRB.out.2.1 HRB.out.2.2 HI.out.1 (HI.out.2.congr fun i hi => by rw [if_pos hi])
              clear HI
              go_upto_region 24 with fail
              --CUTg2
              go_loopw [87] (fun i wr => ∃ j : Nat, j ≤ no ∧ i = .int .i64 j ∧ Hid (CellI W9 G (RN : Int) (RN : Int) (s : Int) (runMvs id (done.take j)) wr)) (fun i _ => no - (intOf i).toNat)
              case atStart => exact ⟨0, Nat.zero_le _, rfl, HI3⟩
              case round =>
                clear HI3
                obtain ⟨j, hj, rfl, HI⟩ := hrel
                by_cases hlt2 : j < no
                · have hjl : j < done.length := by rw [HONE.out.2.1]; exact hlt2
                  have hq := HB9.out.trans (HI.out.kq.below (B := w6.heap.size) HB9.out.size (Nat.le_of_eq HGG.out) (Nat.le_of_eq HGG.out) (Nat.le_of_eq HGG.out) (fun g hg => by cases hg))
                  obtain ⟨b8, off8, rfl, hb8, e0, e1, e2, e3, e4, e5⟩ := mv_at HONE.out.1 j hjl
                  replace e0 := (hq.cell (p := ⟨b8, _, none⟩) hb8).trans e0
                  replace e1 := (hq.cell (p := ⟨b8, _, none⟩) hb8).trans e1
                  replace e2 := (hq.cell (p := ⟨b8, _, none⟩) hb8).trans e2
                  replace e3 := (hq.cell (p := ⟨b8, _, none⟩) hb8).trans e3
                  replace e4 := (hq.cell (p := ⟨b8, _, none⟩) hb8).trans e4
                  replace e5 := (hq.cell (p := ⟨b8, _, none⟩) hb8).trans e5
                  obtain ⟨x, hxe⟩ : ∃ x, done[j] = x := ⟨_, rfl⟩
                  have hx := HONE.out.2.2.legal x (by rw [← hxe]; exact List.getElem_mem hjl)
                  have HT : Hid (done.take (j + 1) = done.take j ++ [x]) := by show _ = _; rw [← hxe]; exact List.take_succ_eq_append_getElem hjl
                  rw [hxe] at e0 e1 e2 e3 e4 e5
                  have hbs := cellK_bd HRB.out.1 HRB.out.2.1 HRB.out.2.2 hx.a
                  have hbd := cellK_bd HRB.out.1 HRB.out.2.1 HRB.out.2.2 hx.b
                  obtain ⟨cs, hcs⟩ : ∃ cs : Nat, cellK x.src = (cs : Int) := ⟨(cellK x.src).toNat, by omega⟩
                  obtain ⟨cd, hcd⟩ : ∃ cd : Nat, cellK x.dst = (cd : Int) := ⟨(cellK x.dst).toNat, by omega⟩
                  have hcs2 : cs < 200 := by omega
                  have hcd2 : cd < 200 := by omega
                  have hcs3 : (cs : Int) < 200 := by omega
                  have hcd3 : (cd : Int) < 200 := by omega
                  have HC1 := fun W' => may_cell HRB.out.1 HRB.out.2.1 HRB.out.2.2 hx.b W'
                  have HC2 := fun W' => may_cell HRB.out.1 HRB.out.2.1 HRB.out.2.2 hx.a W'
                  rw [hcd] at HC1
                  rw [hcs] at HC2
                  obtain ⟨hv, hhv⟩ : ∃ hv, cellK (runMvs id (done.take j) x.src) = hv := ⟨_, rfl⟩
                  obtain ⟨V, hV⟩ : ∃ V, wr.heap.size = V := ⟨_, rfl⟩
                  obtain ⟨W3, hW3⟩ : ∃ W3, W3 = wr.alloc (.cells #[.int .i64 x.src.kind, .int .i64 x.src.cls, .int .i64 x.src.n, .int .i64 x.dst.kind, .int .i64 x.dst.cls, .int .i64 x.dst.n] 36) := ⟨_, rfl⟩
                  have hb3 : Below wr.heap.size wr W3 := by rw [hW3]; exact (Below.refl _ _).alloc (Nat.le_refl _) _
                  have t3 := topO wr #[.int .i64 x.src.kind, .int .i64 x.src.cls, .int .i64 x.src.n, .int .i64 x.dst.kind, .int .i64 x.dst.cls, .int .i64 x.dst.n] 36
                  rw [← hW3, hV] at t3
                  have zV : V < W3.heap.size := by rw [hW3, ← hV]; simp
                  have I3 := HI.out.below hb3
                  have HSG : Hid (∀ w', Below W3.heap.size W3 w' → (fun w' => w'.cell? ⟨V, 0, none⟩ = some (.int .i64 x.src.kind) ∧ w'.cell? ⟨V, 1, none⟩ = some (.int .i64 x.src.cls) ∧ w'.cell? ⟨V, 2, none⟩ = some (.int .i64 x.src.n) ∧ w'.cell? ⟨V, 3, none⟩ = some (.int .i64 x.dst.kind) ∧ w'.cell? ⟨V, 4, none⟩ = some (.int .i64 x.dst.cls) ∧ w'.cell? ⟨V, 5, none⟩ = some (.int .i64 x.dst.n) ∧ w'.cell? ⟨G, cs, none⟩ = some (.int .i64 hv)) w') := fun w' hh => by
                    obtain ⟨hf, rr, h2⟩ := (I3.below hh).row
                    refine ⟨(hh.cell (p := ⟨V, 0, none⟩) zV).trans (t3 0), (hh.cell (p := ⟨V, 1, none⟩) zV).trans (t3 1), (hh.cell (p := ⟨V, 2, none⟩) zV).trans (t3 2), (hh.cell (p := ⟨V, 3, none⟩) zV).trans (t3 3), (hh.cell (p := ⟨V, 4, none⟩) zV).trans (t3 4), (hh.cell (p := ⟨V, 5, none⟩) zV).trans (t3 5), ?_⟩
                    have h3 := h2 x.src hx.a
                    have h4 := rr.cell (i := cs) hcs2
                    rw [hcs, Int.toNat_natCast, hhv] at h3
                    rw [h3] at h4
                    exact h4
                  have HI3 : Hid (CellI W9 G (RN : Int) (RN : Int) (s : Int) (runMvs id (done.take j)) W3) := I3
                  have HX : Hid (LegalM (RN : Int) (RN : Int) (s : Int) x ∧ cellK x.dst = (cd : Int) ∧ cellK (runMvs id (done.take j) x.src) = hv) := ⟨hx, hcd, hhv⟩
                  have HW3 : Hid (W3 = wr.alloc (.cells #[.int .i64 x.src.kind, .int .i64 x.src.cls, .int .i64 x.src.n, .int .i64 x.dst.kind, .int .i64 x.dst.cls, .int .i64 x.dst.n] 36)) := hW3
                  have HVV : Hid (wr.heap.size = V) := hV
                  clear hq hb8 hxe hW3 hV hb3 t3 I3 hcs hcd hhv hbs hbd HI hx
                  go_upto_region 26 with fail
                  rw [← HW3.out, HVV.out]
                  clear HW3 e0 e1 e2 e3 e4 e5
                  --CUTg3
                  refine wp_region_X (fun w' => w'.cell? ⟨V, 0, none⟩ = some (.int .i64 x.src.kind) ∧ w'.cell? ⟨V, 1, none⟩ = some (.int .i64 x.src.cls) ∧ w'.cell? ⟨V, 2, none⟩ = some (.int .i64 x.src.n) ∧ w'.cell? ⟨V, 3, none⟩ = some (.int .i64 x.dst.kind) ∧ w'.cell? ⟨V, 4, none⟩ = some (.int .i64 x.dst.cls) ∧ w'.cell? ⟨V, 5, none⟩ = some (.int .i64 x.dst.n) ∧ w'.cell? ⟨G, cs, none⟩ = some (.int .i64 hv)) 11 (by kernel_rfl) (HSG.out _ (Below.refl _ _).drew) (fun hHeld => ?_)
                  refine wpXt (v := ?_) 0 rfl (by kernel_rfl) (fun _ _ _ h => h) (by rfl) ?_ hHeld ?_
                  rotate_left
                  · intro w' hSw
                    go_simp <;> with_reducible rfl
                  try simp only [Act.put, List.setIfInBounds_toArray, List.set_cons_zero, List.set_cons_succ]
                  refine wpXt (v := ?_) 1 rfl (by kernel_rfl) (fun _ _ _ h => h) (by rfl) ?_ hHeld ?_
                  rotate_left
                  · intro w' hSw
                    go_simp <;> with_reducible rfl
                  try simp only [Act.put, List.setIfInBounds_toArray, List.set_cons_zero, List.set_cons_succ]
                  refine wpXt (v := ?_) 2 rfl (by kernel_rfl) (fun _ _ _ h => h) (by rfl) ?_ hHeld ?_
                  rotate_left
                  · intro w' hSw
                    go_simp <;> with_reducible rfl
                  try simp only [Act.put, List.setIfInBounds_toArray, List.set_cons_zero, List.set_cons_succ]
                  refine wpXt (v := ?_) 4 rfl (by kernel_rfl) (fun _ _ _ h => h) (by rfl) ?_ hHeld ?_
                  rotate_left
                  · intro w' hSw
                    go_simp <;> with_reducible rfl
                  try simp only [Act.put, List.setIfInBounds_toArray, List.set_cons_zero, List.set_cons_succ]
                  refine wpXt (v := ?_) 5 rfl (by kernel_rfl) (fun _ _ _ h => h) (by rfl) ?_ hHeld ?_
                  rotate_left
                  · intro w' hSw
                    go_simp <;> with_reducible rfl
                  try simp only [Act.put, List.setIfInBounds_toArray, List.set_cons_zero, List.set_cons_succ]
                  refine wpXt (v := ?_) 6 rfl (by kernel_rfl) (fun _ _ _ h => h) (by rfl) ?_ hHeld ?_
                  rotate_left
                  · intro w' hSw
                    go_simp <;> with_reducible rfl
                  try simp only [Act.put, List.setIfInBounds_toArray, List.set_cons_zero, List.set_cons_succ]
                  refine wpXs 3 rfl (by kernel_rfl) (fun K hK => ?_)
                  go_simp
                  refine (HC1 _).mono ?_
                  clear HC1
                  rintro e w4 ⟨rfl, hb4⟩
                  have hd4 := ((Below.refl W3.heap.size W3).drew).trans hb4
                  refine hK.out _ _ (HSG.out _ hd4) (fun hHeld => ?_)
                  clear hK K
                  try simp only [Act.put, List.setIfInBounds_toArray, List.set_cons_zero, List.set_cons_succ]
                  refine wpXs 7 rfl (by kernel_rfl) (fun K hK => ?_)
                  go_simp
                  refine (HC2 _).mono ?_
                  clear HC2
                  rintro e w5 ⟨rfl, hb5⟩
                  have hd5 := hd4.trans (hb5.mono hd4.size)
                  have I5 := HI3.out.below hd5
                  obtain ⟨hh, rr, _⟩ := I5.row
                  have fz := rr.frozen cd
                  have fc := rr.cell (i := cd) hcd2
                  refine hK.out _ _ (HSG.out _ hd5) (fun hHeld => ?_)
                  clear hK K
                  try simp only [Act.put, List.setIfInBounds_toArray, List.set_cons_zero, List.set_cons_succ]
                  refine wpXt (v := ?_) 8 rfl (by kernel_rfl) (fun _ _ _ h => h) (by rfl) ?_ hHeld ?_
                  rotate_left
                  · intro w' hSw
                    go_simp <;> with_reducible rfl
                  try simp only [Act.put, List.setIfInBounds_toArray, List.set_cons_zero, List.set_cons_succ]
                  refine wpXt (v := ?_) 9 rfl (by kernel_rfl) (fun _ _ _ h => h) (by rfl) ?_ hHeld ?_
                  rotate_left
                  · intro w' hSw
                    go_simp <;> with_reducible rfl
                  try simp only [Act.put, List.setIfInBounds_toArray, List.set_cons_zero, List.set_cons_succ]
                  refine wpXt (v := ?_) 10 rfl (by kernel_rfl) (fun _ _ _ h => h) (by rfl) ?_ hHeld ?_
                  rotate_left
                  · intro w' hSw
                    go_simp <;> with_reducible rfl
                  try simp only [Act.put, List.setIfInBounds_toArray, List.set_cons_zero, List.set_cons_succ]
                  refine wpXl 11 rfl (by kernel_rfl) rfl (by kernel_rfl) (fun K hK => ?_)
                  go_simp
                  refine hK.out _ _ ?_
                  clear hK K
                  have HE : Hid (CellI W9 G (RN : Int) (RN : Int) (s : Int) (runMvs id (done.take (j + 1))) (w5.setCell ⟨G, cd, none⟩ (.int .i64 hv))) := by
                    have h := CellI.step HRB.out.1 HRB.out.2.1 HRB.out.2.2 I5 HX.out.1 HX.out.2.1 HX.out.2.2.symm
                    rw [HT.out, runMvs_append]
                    exact h
                  clear I5 rr fz fc hHeld hd4 hd5
                  go_wp2
                  exact ⟨⟨j + 1, by omega, by simp, HE.out⟩, by simp [intOf]; omega⟩
                · have hjn2 : j = no := by omega
                  subst hjn2
                  have HCELL : Hid (CellI W9 G (RN : Int) (RN : Int) (s : Int) (runMvs id done) wr) := by
                    have h := HI.out
                    rw [List.take_of_length_le (by rw [HONE.out.2.1]; exact Nat.le_refl _)] at h
                    exact h
                  clear HI
                  --CUTg4
                  go_upto_region 29 with fail
                  --CUT14
                  go_loopw [20] (fun i wr => ∃ j : Nat, j ≤ RN ∧ i = .int .i64 j ∧ Hid (CellI W9 G (RN : Int) (RN : Int) (s : Int) (runMvs id done) wr)) (fun i _ => RN - (intOf i).toNat)
                  case atStart => exact ⟨0, Nat.zero_le _, rfl, HCELL⟩
                  case round =>
                    clear HCELL
                    obtain ⟨i, hi, rfl, HI⟩ := hrel
                    have HQ : Hid (Below w6.heap.size w6 wr) := HB9.out.trans (HI.out.kq.below (B := w6.heap.size) HB9.out.size (Nat.le_of_eq HGG.out) (Nat.le_of_eq HGG.out) (Nat.le_of_eq HGG.out) (fun g hg => by cases hg))
                    have n0 := (HQ.out.cell (p := ⟨M, 0, none⟩) hM6).trans HMC.out
                    by_cases hlt3 : i < RN
                    · have ro := cell_src HI.out HONE.out.2.2 (reg_real (R := (RN : Int)) (fr := (s : Int)) (n := (i : Int)) (by omega) (by omega)) (fanL_src_reg hlt3) (c := i) (by simp [cellK]) (by omega)
                      rw [show cellK ⟨1, 0, f⟩ = f from by simp [cellK]] at ro
                      have x4 : (i : Int) < 200 := by omega
                      have HI2 : Hid (CellI W9 G (RN : Int) (RN : Int) (s : Int) (runMvs id done) wr) := HI
                      clear HI HQ
                      go_wp2
                      --CUT15
                      exact ⟨⟨i + 1, by omega, by simp, HI2⟩, by simp [intOf]; omega⟩
                    · have hin : RN = i := by omega
                      have HI2 : Hid (CellI W9 G (RN : Int) (RN : Int) (s : Int) (runMvs id done) wr) := HI
                      subst hin
                      clear HI HQ
                      --CUT16
                      go_upto_region 34 with fail
                      --CUT17
                      go_loopw [21] (fun i wr => ∃ j : Nat, j ≤ s ∧ i = .int .i64 j ∧ Hid (CellI W9 G (RN : Int) (RN : Int) (s : Int) (runMvs id done) wr)) (fun i _ => s - (intOf i).toNat)
                      case atStart => exact ⟨0, Nat.zero_le _, rfl, HI2⟩
                      case round =>
                        clear HI2 n0
                        obtain ⟨t, ht, rfl, HI⟩ := hrel
                        by_cases hlt4 : t < s
                        · have ro := cell_src HI.out HONE.out.2.2 (slot_real (R := (RN : Int)) (fr := (s : Int)) (n := (t : Int)) (by omega) (by omega)) (fanL_src_slot hlt4) (c := 100 + t) (by simp [cellK]) (by omega)
                          rw [show cellK ⟨1, 0, f⟩ = f from by simp [cellK]] at ro
                          have x2 : IntKind.i64.wrap (100 + (t : Int)) = ((100 + t : Nat) : Int) := by rw [IntKind.wrap_i64]; omega
                          have x4 : ((100 + t : Nat) : Int) < 200 := by omega
                          have HI2 : Hid (CellI W9 G (RN : Int) (RN : Int) (s : Int) (runMvs id done) wr) := HI
                          clear HI
                          go_wp2
                          --CUT18
                          exact ⟨⟨t + 1, by omega, by simp, HI2⟩, by simp [intOf]; omega⟩
                        · have HFB : Hid (Below w.heap.size w wr) := HB6.out.trans ((HB9.out.trans (HI.out.kq.below (B := w6.heap.size) HB9.out.size (Nat.le_of_eq HGG.out) (Nat.le_of_eq HGG.out) (Nat.le_of_eq HGG.out) (fun g hg => by cases hg))).mono HB6.out.size)
                          have hnp := HNP.out
                          have hnq : (0 : Int) < (j : Int) := by omega
                          clear HI
                          --CUT19
                          go_wp2
                          --CUT20
                          go_ret
                          exact ⟨by simp, HFB.out⟩
end Go.Proofs.Ytdlglinbjkaokaa
