/-
  The walk of OrderSlots.
-/
import Derived.Test.YtdlglinbjkaokabOrU
namespace Go.Proofs.Ytdlglinbjkaokab
open Go.RowKit
set_option linter.unusedVariables false

theorem big_any (w : World) :
    Calls Try.prog 7 #[] w fun e w' => e = .returned (.agg #[.int .i64 10, .int .i64 10]) ∧ Below w.heap.size w w' := by
  have pm : pickedOf 8 9 = 8 := by decide
  go_enter Try.func7, Try.ntmps7
  go_wp2_with fail
  refine (machine_any 8 8 _ (by omega) (by omega) (by omega) (by omega)).mono ?_
  rintro e w1 ⟨rfl, hb1⟩
  rw [pm]
  have c0 : w1.cell? ⟨w.heap.size, 0, none⟩ = some (.int .i64 0) := (hb1.cell (by simp)).trans (by go_simp)
  have c1 : w1.cell? ⟨w.heap.size, 1, none⟩ = some (.int .i64 0) := (hb1.cell (by simp)).trans (by go_simp)
  have z0 : w1.frozen? ⟨w.heap.size, 0, none⟩ = false := (hb1.frozen (by simp)).trans (by go_simp)
  have z1 : w1.frozen? ⟨w.heap.size, 1, none⟩ = false := (hb1.frozen (by simp)).trans (by go_simp)
  have hbw : Below w.heap.size w w1 := ((Below.refl _ _).alloc (Nat.le_refl _) _).trans (hb1.mono (by simp))
  obtain ⟨W, hW⟩ : ∃ W, W = (w1.setCell ⟨w.heap.size, 0, none⟩ (.int .i64 10)).setCell ⟨w.heap.size, 1, none⟩ (.int .i64 10) := ⟨_, rfl⟩
  have hbW : Below w.heap.size w W := by rw [hW]; exact (hbw.setCell (by simp) _).setCell (by simp) _
  have d0 : W.cell? ⟨w.heap.size, 0, none⟩ = some (.int .i64 10) := by rw [hW]; go_simp
  have d1 : W.cell? ⟨w.heap.size, 1, none⟩ = some (.int .i64 10) := by rw [hW]; go_simp
  have HW : Hid (W = (w1.setCell ⟨w.heap.size, 0, none⟩ (.int .i64 10)).setCell ⟨w.heap.size, 1, none⟩ (.int .i64 10)) := hW
  clear hW
  go_wp2
  rw [← HW.out]
  exact bodyPost_ret (v := .agg #[.int .i64 10, .int .i64 10]) (by simp [results, Try.results7, go_sem, d0, d1]) rfl ⟨rfl, hbW⟩
theorem slot_place (n : Int) (w : World) : Calls Try.prog 5 #[.int .i64 n] w fun e w' => e = .returned (.agg #[.int .i64 2, .int .i64 0, .int .i64 n]) ∧ Below w.heap.size w w' := by
  have hb : Below w.heap.size w (w.alloc (.cells #[.int .i64 2, .int .i64 0, .int .i64 n] 26)) := (Below.refl _ _).alloc (Nat.le_refl _) _
  go_enter Try.func5, Try.ntmps5
  go_wp2
  exact bodyPost_ret (v := .agg #[.int .i64 2, .int .i64 0, .int .i64 n]) (by simp [results, Try.results5, go_sem]) rfl ⟨rfl, hb⟩
theorem slot_real {R fr n : Int} (h0 : 0 ≤ n) (h1 : n < fr) : RealP R R fr ⟨2, 0, n⟩ := Or.inr ⟨rfl, rfl, h0, h1⟩
theorem cell_src {W w : World} {G : Nat} {r0 r1 fr : Int} {l done : List Mv} (k : CellI W G r0 r1 fr (runMvs id done) w) (h : RightO r0 r1 fr l done) {q p : Pl} (hq : RealP r0 r1 fr q) (hs : srcOf l q = p) {c : Nat} (hc : cellK q = (c : Int)) (h2 : c < 200) : w.cell? ⟨G, c, none⟩ = some (.int .i64 (cellK p)) := by
  obtain ⟨hf, rr, hh⟩ := k.row
  have a := hh q hq.may
  rw [h.val q hq, hs, hc, Int.toNat_natCast] at a
  have b := rr.cell (i := c) h2
  rw [a] at b
  exact b
def revM (k j : Nat) : Mv := ⟨⟨2, 0, (j : Int)⟩, ⟨2, 0, (k : Int) - 1 - (j : Int)⟩⟩
theorem rev_nd (k : Nat) : (dsts (mvF (revM k) k)).Nodup := mvF_nd fun a b _ _ h => by
  have := congrArg Pl.n h
  unfold revM at this
  simp only at this
  omega
theorem rev_chk {R c : Int} {k : Nat} (hc : c = 0 ∨ c = 1) (i : Nat) (hi : i < k) : chkE R R (k : Int) (revM k i) c = 0 := by
  have a := real_iff.2 (slot_real (R := R) (fr := (k : Int)) (n := (i : Int)) (by omega) (by omega))
  have b := real_iff.2 (slot_real (R := R) (fr := (k : Int)) (n := (k : Int) - 1 - (i : Int)) (by omega) (by omega))
  unfold chkE holdO revM
  rw [if_neg (by omega), if_neg (by omega), if_neg (by simp only [a]; simp), if_neg (by simp only [b]; simp), if_neg (by simp [suitO]), if_neg (by simp [suitO])]
theorem rev_src {k i : Nat} (hi : i < k) : srcOf (mvF (revM k) k) ⟨2, 0, (i : Int)⟩ = ⟨2, 0, (k : Int) - 1 - (i : Int)⟩ := by
  have h := srcOf_mem (rev_nd k) (m := revM k (k - 1 - i)) (mvF_mem.2 ⟨k - 1 - i, by omega, rfl⟩)
  unfold revM at h
  simp only at h
  have e : ((k - 1 - i : Nat) : Int) = (k : Int) - 1 - (i : Int) := by omega
  rw [e, show (k : Int) - 1 - ((k : Int) - 1 - (i : Int)) = (i : Int) from by omega] at h
  exact h
set_option maxRecDepth 8000 in
set_option maxHeartbeats 32000000 in
theorem orderSlots_walk (n : Int) (wn : (Lit.int .i64 n).wf = true) (q : Int) (wq : (Lit.int .i64 q).wf = true) (w : World) :
    Calls Try.prog 3 #[.int .i64 n, .int .i64 q] w fun e w' => e = .returned (.bool true) ∧ Below w.heap.size w w' := by
  have bds : ∀ x : Int, (Lit.int .i64 x).wf = true → -9223372036854775808 ≤ x ∧ x ≤ 9223372036854775807 := fun x hx => by
    simp only [Lit.wf, IntKind.min, IntKind.max, IntKind.signed, IntKind.bits, Bool.and_eq_true, decide_eq_true_eq, if_true] at hx
    exact ⟨by omega, by omega⟩
  obtain ⟨n1, n2⟩ := bds n wn
  obtain ⟨q1, q2⟩ := bds q wq
  obtain ⟨z, hz⟩ : ∃ z, pickedOf n 8 = z := ⟨_, rfl⟩
  have hz0 : 0 ≤ z ∧ z < 8 := by rw [← hz]; exact pickedOf_bd n 8 (by omega)
  obtain ⟨k, hk⟩ : ∃ k : Nat, 2 + z = (k : Int) := ⟨(2 + z).toNat, by omega⟩
  have hk2 : 2 ≤ k := by omega
  have hk10 : k ≤ 10 := by omega
  obtain ⟨cN, hc⟩ : ∃ cN : Nat, pickedOf q 2 = (cN : Int) := ⟨(pickedOf q 2).toNat, by have := pickedOf_bd q 2 (by omega); omega⟩
  have hcN2 : cN < 2 := by have := pickedOf_bd q 2 (by omega); omega
  have hcc : (cN : Int) = 0 ∨ (cN : Int) = 1 := by omega
  have HPN := fun W' => picked_is n 8 z W' hz n1 n2 (by omega) (by omega)
  have HPC := fun W' => picked_is q 2 (cN : Int) W' hc q1 q2 (by omega) (by omega)
  have hw2 : IntKind.i64.wrap (2 + z) = (k : Int) := by rw [IntKind.wrap_i64]; omega
  have hw3 : IntKind.i64.wrap ((k : Int) - 1) = (k : Int) - 1 := by rw [IntKind.wrap_i64]; omega
  have HOE : Hid (ordE 10 10 (k : Int) (mvF (revM k) k) (List.replicate k (cN : Int)) = 0) := by
    have h := ordE_rep (R := 10) (fr := (k : Int)) (l := mvF (revM k) k) (c := (cN : Int)) (by omega) (by omega) (by omega) (by rw [mvF_len]; omega) (fun m hm => by
      obtain ⟨i, hi, rfl⟩ := mvF_mem.1 hm
      exact rev_chk hcc i hi) (rev_nd k)
    rw [mvF_len] at h
    exact h
  have hz1 : z < 8 := hz0.2
  have hzz : 0 ≤ z := hz0.1
  have HKK : Hid (2 + z = (k : Int)) := hk
  clear hz hc hz0 hk
  go_enter Try.func3, Try.ntmps3
  --CUT1
  go_upto_region 2 with (go_at_call 4; refine (HPN _).mono ?_; rintro e w' ⟨rfl, hw'⟩; rw [hw']; clear hw' w')
  --CUT2
  go_upto_region 6 with (go_at_call 4; refine (HPC _).mono ?_; rintro e w' ⟨rfl, hw'⟩; rw [hw']; clear hw' w')
  have HGT0 : Hid (GrT w w.heap.size (.slice none 0 0) (.slice none 0 0) (mvF (revM k) 0) (List.replicate 0 (cN : Int)) w) := GrT.nil w
  --CUT3
  go_loopw [9, 7, 8] (fun i sx v wr => ∃ (j : Nat) (a6 : Option Addr) (c6 : Nat) (a7 : Option Addr) (c7 : Nat), j ≤ k ∧ i = .int .i64 j ∧ sx = .slice a6 j c6 ∧ v = .slice a7 j c7 ∧ Hid (GrT w w.heap.size (.slice a6 j c6) (.slice a7 j c7) (mvF (revM k) j) (List.replicate j (cN : Int)) wr)) (fun i _ _ _ => k - (intOf i).toNat)
  case atStart => exact ⟨0, none, 0, none, 0, Nat.zero_le _, rfl, rfl, rfl, HGT0⟩
  case round =>
    clear HGT0
    obtain ⟨j, a6, c6, a7, c7, hj, rfl, rfl, rfl, HI⟩ := hrel
    by_cases hlt : j < k
    · have hw4 : IntKind.i64.wrap ((k : Int) - 1 - (j : Int)) = (k : Int) - 1 - (j : Int) := by rw [IntKind.wrap_i64]; omega
      go_wp2_with fail
      go_at_call 5
      refine (slot_place (j : Int) _).mono ?_
      rintro e w2 ⟨rfl, hb2⟩
      go_wp2_with fail
      go_at_call 5
      refine (slot_place ((k : Int) - 1 - (j : Int)) _).mono ?_
      rintro e w3 ⟨rfl, hb3⟩
      have HI := HI.out.below (hb2.trans (hb3.mono hb2.size))
      clear hb2 hb3
      have ho6 := HI.o6
      rw [mvF_len] at ho6
      obtain ⟨g6, cap6, w4, hr6, o6, hg6, at6⟩ := app_moves ho6 HI.le [revM k j] #[.int .i64 2, .int .i64 0, .int .i64 (j : Int), .int .i64 2, .int .i64 0, .int .i64 ((k : Int) - 1 - (j : Int))] rfl 1 rfl (by omega) (by omega) 1 23
      have k3 := HI.push6 (m := revM k j) (by rw [mvF_len]; exact o6) hg6 at6
      rw [mvF_len] at k3
      have ho7 := k3.o7
      rw [List.length_replicate] at ho7
      obtain ⟨g7, cap7, w5, hr7, o7, hg7, at7⟩ := app_int ho7 k3.le (cN : Int) (by omega) 24
      have k4 := k3.push7 (x := (cN : Int)) (by rw [List.length_replicate]; exact o7) hg7 at7
      rw [List.length_replicate] at k4
      have HE : Hid (GrT w w.heap.size (.slice (some ⟨g6, 0, none⟩) (j + 1) cap6) (.slice (some ⟨g7, 0, none⟩) (j + 1) cap7) (mvF (revM k) (j + 1)) (List.replicate (j + 1) (cN : Int)) w5) := by
        show GrT _ _ _ _ _ _ _
        rw [mvF_succ, rep_succ]
        exact k4
      clear HI ho6 o6 hg6 at6 k3 ho7 o7 hg7 at7 k4
      --CUT6
      go_wp2_with (first | (at_builtin; refine wpL_append rfl _ _ _ rfl rfl rfl hr6 ?_) | (at_builtin; refine wpL_append rfl _ _ _ rfl rfl rfl hr7 ?_))
      --CUT7
      exact ⟨⟨j + 1, _, _, _, _, by omega, by simp, rfl, rfl, HE⟩, by simp [intOf]; omega⟩
    · have hjn : k = j := by omega
      subst hjn
      have HO := fun (w' : World) (hb : Below wr.heap.size wr w') => by
        have hg := HI.out.below hb
        obtain ⟨sl1, sl2⟩ := hg.sl (by rw [mvF_len]; unfold longest; omega) (by rw [List.length_replicate]; unfold longest; omega)
        have h := order_any 10 10 (k : Int) _ _ _ _ w' sl1 sl2 (fun m hm => by
          obtain ⟨i, hi, rfl⟩ := mvF_mem.1 hm
          refine ⟨⟨?_, ?_, ?_⟩, ⟨?_, ?_, ?_⟩⟩ <;> (unfold revM I64) <;> simp only <;> constructor <;> omega)
        rw [HOE.out] at h
        exact h
      have HBr : Hid (Below w.heap.size w wr) := HI.out.low
      clear HI
      --CUT10
      go_wp2_with fail
      go_at_call 7
      refine (big_any _).mono ?_
      rintro e w5 ⟨rfl, hb5⟩
      have HO := HO w5 hb5
      have HB5 : Hid (Below w.heap.size w w5) := HBr.out.trans (hb5.mono HBr.out.size)
      clear hb5 HBr
      go_upto_region 11 with (go_at_call 6; refine HO.mono ?_; clear HO; rintro e w6 ⟨hb6, v6, rfl, -, hv6⟩)
      --CUT12
      obtain ⟨done, hsl, hrt⟩ := hv6 trivial
      obtain ⟨ao, co, rfl, -⟩ := hsl.out
      obtain ⟨no, hno⟩ : ∃ no, done.length = no := ⟨_, rfl⟩
      rw [hno] at hsl ⊢
      have HONE : Hid (SlOf w6 6 RMv (.slice ao no co) done ∧ done.length = no ∧ RightO 10 10 (k : Int) (mvF (revM k) k) done) := ⟨hsl, hno, hrt⟩
      have HRB : Hid ((10 : Int) ≤ 10 ∧ (10 : Int) ≤ 10 ∧ (k : Int) ≤ 50) := ⟨by omega, by omega, by omega⟩
      have hno2 : no ≤ 1000000 := by have := hrt.len; rw [mvF_len] at this; omega
      have HB6 : Hid (Below w.heap.size w w6) := HB5.out.trans (hb6.mono HB5.out.size)
      clear hv6 hsl hno hrt hb6 HB5 HOE
      --CUT13
      obtain ⟨G, hG⟩ : ∃ G, w6.heap.size = G := ⟨_, rfl⟩
      obtain ⟨W9, hW9⟩ : ∃ W9, W9 = w6.alloc (.cells (madeCells #[.int .i64 0] 200) 3) := ⟨_, rfl⟩
      have hb9 : Below w6.heap.size w6 W9 := by rw [hW9]; exact (Below.refl _ _).alloc (Nat.le_refl _) _
      have rG := World.rowIs_made w6 (.int .i64 0) 200 3
      rw [← hW9, hG] at rG
      have hmk := run_make_row' (P := Try.prog) 24 3 (.int .i64 0) 8 Try.underlying24 (by kernel_rfl) rfl .i64 .i64 200 (by omega) (by omega)
      simp only [show ((200 : Nat) : Int) = 200 from rfl] at hmk
      have HG0 : Hid (Kq G G G nilV nilV W9 W9 ∧ W9.rowIs G 3 200 (fun i => if i < 0 then .int .i64 (i : Int) else .int .i64 0)) := ⟨Kq.refl _ _ _ _ _, rG.congr fun i hi => by simp⟩
      have HW9 : Hid (W9 = w6.alloc (.cells (madeCells #[.int .i64 0] 200) 3)) := hW9
      have HGG : Hid (w6.heap.size = G) := hG
      have HB9 : Hid (Below w6.heap.size w6 W9) := hb9
      clear hG hW9 hb9 rG
      go_upto_region 13 with fail
      rw [← HW9.out, HGG.out]
      --CUTg1
      go_loopw [53] (fun i wr => ∃ j : Nat, j ≤ 200 ∧ i = .int .i64 j ∧ Hid (Kq G G G nilV nilV W9 wr ∧ wr.rowIs G 3 200 (fun i => if i < j then .int .i64 (i : Int) else .int .i64 0))) (fun i _ => 200 - (intOf i).toNat)
      case atStart => exact ⟨0, Nat.zero_le _, rfl, HG0.out⟩
      case round =>
        clear HG0 hmk
        obtain ⟨j, hj, rfl, HI⟩ := hrel
        by_cases hlt : j < 200
        · have r1 := HI.out.2.cell (i := j) hlt
          have r2 := HI.out.2.frozen j
          rw [if_neg (Nat.lt_irrefl j)] at r1
          have HE : Hid (Kq G G G nilV nilV W9 (wr.setCell ⟨G, j, none⟩ (.int .i64 (j : Int))) ∧ (wr.setCell ⟨G, j, none⟩ (.int .i64 (j : Int))).rowIs G 3 200 (fun i => if i < j + 1 then .int .i64 (i : Int) else .int .i64 0)) := by
            have h := HI.out.1
            refine ⟨⟨h.os, h.tape, h.output, by simpa [World.setCell] using h.size, fun q hq n1 n2 n3 n4 => (Below.heap_setCell _ _ _ _ (by show q ≠ G; exact n1)).trans (h.block q hq n1 n2 n3 n4), h.own⟩, (HI.out.2.set j _).congr fun i hi => ?_⟩
            by_cases e : i = j
            · subst e
              simp
            · rw [if_neg e]
              by_cases e2 : i < j
              · rw [if_pos e2, if_pos (by omega)]
              · rw [if_neg e2, if_neg (by omega)]
          clear HI
          go_wp2
          exact ⟨⟨j + 1, by omega, by simp, HE.out⟩, by simp [intOf]; omega⟩
        · have hjn : j = 200 := by omega
          subst hjn
          have HI3 : Hid (CellI W9 G 10 10 (k : Int) (runMvs id (done.take 0)) wr) := by
            refine CellI.start HRB.out.1 HRB.out.2.1 HRB.out.2.2 HI.out.1 (HI.out.2.congr fun i hi => by rw [if_pos hi])
          clear HI
          go_upto_region 18 with fail
          --CUTg2
          go_loopw [4, 63] (fun r i wr => ∃ j : Nat, j ≤ no ∧ i = .int .i64 j ∧ r = .bool false ∧ Hid (CellI W9 G 10 10 (k : Int) (runMvs id (done.take j)) wr)) (fun _ i _ => no - (intOf i).toNat)
          case atStart => exact ⟨0, Nat.zero_le _, rfl, rfl, HI3⟩
          case round =>
            clear HI3
            obtain ⟨j, hj, rfl, rfl, HI⟩ := hrel
            by_cases hlt2 : j < no
            · have hjl : j < done.length := by rw [HONE.out.2.1]; exact hlt2
              have hq := HB9.out.trans (HI.out.kq.below (B := w6.heap.size) HB9.out.size (Nat.le_of_eq HGG.out) (Nat.le_of_eq HGG.out) (Nat.le_of_eq HGG.out) (fun g hg => by cases hg))
              obtain ⟨b8, off8, rfl, hb8, e0, e1, e2, e3, e4, e5⟩ := mv_at HONE.out.1 j hjl
              replace e0 := (hq.cell (p := ⟨b8, _, none⟩) hb8).trans e0
              replace e1 := (hq.cell (p := ⟨b8, _, none⟩) hb8).trans e1
              replace e2 := (hq.cell (p := ⟨b8, _, none⟩) hb8).trans e2
              replace e3 := (hq.cell (p := ⟨b8, _, none⟩) hb8).trans e3
              replace e4 := (hq.cell (p := ⟨b8, _, none⟩) hb8).trans e4
              replace e5 := (hq.cell (p := ⟨b8, _, none⟩) hb8).trans e5
              obtain ⟨x, hxe⟩ : ∃ x, done[j] = x := ⟨_, rfl⟩
              have hx := HONE.out.2.2.legal x (by rw [← hxe]; exact List.getElem_mem hjl)
              have HT : Hid (done.take (j + 1) = done.take j ++ [x]) := by show _ = _; rw [← hxe]; exact List.take_succ_eq_append_getElem hjl
              rw [hxe] at e0 e1 e2 e3 e4 e5
              have hbs := cellK_bd HRB.out.1 HRB.out.2.1 HRB.out.2.2 hx.a
              have hbd := cellK_bd HRB.out.1 HRB.out.2.1 HRB.out.2.2 hx.b
              obtain ⟨cs, hcs⟩ : ∃ cs : Nat, cellK x.src = (cs : Int) := ⟨(cellK x.src).toNat, by omega⟩
              obtain ⟨cd, hcd⟩ : ∃ cd : Nat, cellK x.dst = (cd : Int) := ⟨(cellK x.dst).toNat, by omega⟩
              have hcs2 : cs < 200 := by omega
              have hcd2 : cd < 200 := by omega
              have hcs3 : (cs : Int) < 200 := by omega
              have hcd3 : (cd : Int) < 200 := by omega
              have HC1 := fun W' => may_cell HRB.out.1 HRB.out.2.1 HRB.out.2.2 hx.b W'
              have HC2 := fun W' => may_cell HRB.out.1 HRB.out.2.1 HRB.out.2.2 hx.a W'
              rw [hcd] at HC1
              rw [hcs] at HC2
              obtain ⟨hv, hhv⟩ : ∃ hv, cellK (runMvs id (done.take j) x.src) = hv := ⟨_, rfl⟩
              obtain ⟨V, hV⟩ : ∃ V, wr.heap.size = V := ⟨_, rfl⟩
              obtain ⟨W3, hW3⟩ : ∃ W3, W3 = wr.alloc (.cells #[.int .i64 x.src.kind, .int .i64 x.src.cls, .int .i64 x.src.n, .int .i64 x.dst.kind, .int .i64 x.dst.cls, .int .i64 x.dst.n] 29) := ⟨_, rfl⟩
              have hb3 : Below wr.heap.size wr W3 := by rw [hW3]; exact (Below.refl _ _).alloc (Nat.le_refl _) _
              have t3 := topO wr #[.int .i64 x.src.kind, .int .i64 x.src.cls, .int .i64 x.src.n, .int .i64 x.dst.kind, .int .i64 x.dst.cls, .int .i64 x.dst.n] 29
              rw [← hW3, hV] at t3
              have zV : V < W3.heap.size := by rw [hW3, ← hV]; simp
              have I3 := HI.out.below hb3
              have HSG : Hid (∀ w', Below W3.heap.size W3 w' → (fun w' => w'.cell? ⟨V, 0, none⟩ = some (.int .i64 x.src.kind) ∧ w'.cell? ⟨V, 1, none⟩ = some (.int .i64 x.src.cls) ∧ w'.cell? ⟨V, 2, none⟩ = some (.int .i64 x.src.n) ∧ w'.cell? ⟨V, 3, none⟩ = some (.int .i64 x.dst.kind) ∧ w'.cell? ⟨V, 4, none⟩ = some (.int .i64 x.dst.cls) ∧ w'.cell? ⟨V, 5, none⟩ = some (.int .i64 x.dst.n) ∧ w'.cell? ⟨G, cs, none⟩ = some (.int .i64 hv)) w') := fun w' hh => by
                obtain ⟨hf, rr, h2⟩ := (I3.below hh).row
                refine ⟨(hh.cell (p := ⟨V, 0, none⟩) zV).trans (t3 0), (hh.cell (p := ⟨V, 1, none⟩) zV).trans (t3 1), (hh.cell (p := ⟨V, 2, none⟩) zV).trans (t3 2), (hh.cell (p := ⟨V, 3, none⟩) zV).trans (t3 3), (hh.cell (p := ⟨V, 4, none⟩) zV).trans (t3 4), (hh.cell (p := ⟨V, 5, none⟩) zV).trans (t3 5), ?_⟩
                have h3 := h2 x.src hx.a
                have h4 := rr.cell (i := cs) hcs2
                rw [hcs, Int.toNat_natCast, hhv] at h3
                rw [h3] at h4
                exact h4
              have HI3 : Hid (CellI W9 G 10 10 (k : Int) (runMvs id (done.take j)) W3) := I3
              have HX : Hid (LegalM 10 10 (k : Int) x ∧ cellK x.dst = (cd : Int) ∧ cellK (runMvs id (done.take j) x.src) = hv) := ⟨hx, hcd, hhv⟩
              have HW3 : Hid (W3 = wr.alloc (.cells #[.int .i64 x.src.kind, .int .i64 x.src.cls, .int .i64 x.src.n, .int .i64 x.dst.kind, .int .i64 x.dst.cls, .int .i64 x.dst.n] 29)) := hW3
              have HVV : Hid (wr.heap.size = V) := hV
              clear hq hb8 hxe hW3 hV hb3 t3 I3 hcs hcd hhv hbs hbd HI hx
              go_upto_region 20 with fail
              rw [← HW3.out, HVV.out]
              clear HW3 e0 e1 e2 e3 e4 e5
              --CUTg3
              have f0 := (HSG.out W3 (Below.refl _ _)).1
              have f3 := (HSG.out W3 (Below.refl _ _)).2.2.2.1
              have hq : (x.src.kind == 2) = false ∨ ((x.src.kind == 2) = true ∧ (x.dst.kind == 2) = false) := by
                have hh := HX.out.1.c
                unfold hopB at hh
                by_cases e : x.src.kind = 2
                · refine Or.inr ⟨by simpa using e, ?_⟩
                  simpa [e] using hh
                · exact Or.inl (by simpa using e)
              rcases hq with q1 | ⟨q1, q2⟩
              · go_upto_region 22 with fail
                --CUTh1
                clear f0 f3 q1
                refine wp_region_X (fun w' => w'.cell? ⟨V, 0, none⟩ = some (.int .i64 x.src.kind) ∧ w'.cell? ⟨V, 1, none⟩ = some (.int .i64 x.src.cls) ∧ w'.cell? ⟨V, 2, none⟩ = some (.int .i64 x.src.n) ∧ w'.cell? ⟨V, 3, none⟩ = some (.int .i64 x.dst.kind) ∧ w'.cell? ⟨V, 4, none⟩ = some (.int .i64 x.dst.cls) ∧ w'.cell? ⟨V, 5, none⟩ = some (.int .i64 x.dst.n) ∧ w'.cell? ⟨G, cs, none⟩ = some (.int .i64 hv)) 11 (by kernel_rfl) (HSG.out _ (Below.refl _ _).drew) (fun hHeld => ?_)
                refine wpXt (v := ?_) 0 rfl (by kernel_rfl) (fun _ _ _ h => h) (by rfl) ?_ hHeld ?_
                rotate_left
                · intro w' hSw
                  go_simp <;> with_reducible rfl
                try simp only [Act.put, List.setIfInBounds_toArray, List.set_cons_zero, List.set_cons_succ]
                refine wpXt (v := ?_) 1 rfl (by kernel_rfl) (fun _ _ _ h => h) (by rfl) ?_ hHeld ?_
                rotate_left
                · intro w' hSw
                  go_simp <;> with_reducible rfl
                try simp only [Act.put, List.setIfInBounds_toArray, List.set_cons_zero, List.set_cons_succ]
                refine wpXt (v := ?_) 2 rfl (by kernel_rfl) (fun _ _ _ h => h) (by rfl) ?_ hHeld ?_
                rotate_left
                · intro w' hSw
                  go_simp <;> with_reducible rfl
                try simp only [Act.put, List.setIfInBounds_toArray, List.set_cons_zero, List.set_cons_succ]
                refine wpXt (v := ?_) 4 rfl (by kernel_rfl) (fun _ _ _ h => h) (by rfl) ?_ hHeld ?_
                rotate_left
                · intro w' hSw
                  go_simp <;> with_reducible rfl
                try simp only [Act.put, List.setIfInBounds_toArray, List.set_cons_zero, List.set_cons_succ]
                refine wpXt (v := ?_) 5 rfl (by kernel_rfl) (fun _ _ _ h => h) (by rfl) ?_ hHeld ?_
                rotate_left
                · intro w' hSw
                  go_simp <;> with_reducible rfl
                try simp only [Act.put, List.setIfInBounds_toArray, List.set_cons_zero, List.set_cons_succ]
                refine wpXt (v := ?_) 6 rfl (by kernel_rfl) (fun _ _ _ h => h) (by rfl) ?_ hHeld ?_
                rotate_left
                · intro w' hSw
                  go_simp <;> with_reducible rfl
                try simp only [Act.put, List.setIfInBounds_toArray, List.set_cons_zero, List.set_cons_succ]
                refine wpXs 3 rfl (by kernel_rfl) (fun K hK => ?_)
                go_simp
                refine (HC1 _).mono ?_
                clear HC1
                rintro e w4 ⟨rfl, hb4⟩
                have hd4 := ((Below.refl W3.heap.size W3).drew).trans hb4
                refine hK.out _ _ (HSG.out _ hd4) (fun hHeld => ?_)
                clear hK K
                try simp only [Act.put, List.setIfInBounds_toArray, List.set_cons_zero, List.set_cons_succ]
                refine wpXs 7 rfl (by kernel_rfl) (fun K hK => ?_)
                go_simp
                refine (HC2 _).mono ?_
                clear HC2
                rintro e w5 ⟨rfl, hb5⟩
                have hd5 := hd4.trans (hb5.mono hd4.size)
                have I5 := HI3.out.below hd5
                obtain ⟨hh, rr, _⟩ := I5.row
                have fz := rr.frozen cd
                have fc := rr.cell (i := cd) hcd2
                refine hK.out _ _ (HSG.out _ hd5) (fun hHeld => ?_)
                clear hK K
                try simp only [Act.put, List.setIfInBounds_toArray, List.set_cons_zero, List.set_cons_succ]
                refine wpXt (v := ?_) 8 rfl (by kernel_rfl) (fun _ _ _ h => h) (by rfl) ?_ hHeld ?_
                rotate_left
                · intro w' hSw
                  go_simp <;> with_reducible rfl
                try simp only [Act.put, List.setIfInBounds_toArray, List.set_cons_zero, List.set_cons_succ]
                refine wpXt (v := ?_) 9 rfl (by kernel_rfl) (fun _ _ _ h => h) (by rfl) ?_ hHeld ?_
                rotate_left
                · intro w' hSw
                  go_simp <;> with_reducible rfl
                try simp only [Act.put, List.setIfInBounds_toArray, List.set_cons_zero, List.set_cons_succ]
                refine wpXt (v := ?_) 10 rfl (by kernel_rfl) (fun _ _ _ h => h) (by rfl) ?_ hHeld ?_
                rotate_left
                · intro w' hSw
                  go_simp <;> with_reducible rfl
                try simp only [Act.put, List.setIfInBounds_toArray, List.set_cons_zero, List.set_cons_succ]
                refine wpXl 11 rfl (by kernel_rfl) rfl (by kernel_rfl) (fun K hK => ?_)
                go_simp
                refine hK.out _ _ ?_
                clear hK K
                have HE : Hid (CellI W9 G 10 10 (k : Int) (runMvs id (done.take (j + 1))) (w5.setCell ⟨G, cd, none⟩ (.int .i64 hv))) := by
                  have h := CellI.step HRB.out.1 HRB.out.2.1 HRB.out.2.2 I5 HX.out.1 HX.out.2.1 HX.out.2.2.symm
                  rw [HT.out, runMvs_append]
                  exact h
                clear I5 rr fz fc hHeld hd4 hd5
                go_wp2
                --CUTh2
                exact ⟨⟨.bool false, .pointer (some ⟨V, 0, none⟩), .int .i64 ((j : Int) + 1), ⟨j + 1, by omega, by simp, rfl, HE.out⟩, rfl, rfl, rfl⟩, by simp [intOf]; omega⟩
              · go_upto_region 22 with fail
                clear f0 f3 q1 q2
                refine wp_region_X (fun w' => w'.cell? ⟨V, 0, none⟩ = some (.int .i64 x.src.kind) ∧ w'.cell? ⟨V, 1, none⟩ = some (.int .i64 x.src.cls) ∧ w'.cell? ⟨V, 2, none⟩ = some (.int .i64 x.src.n) ∧ w'.cell? ⟨V, 3, none⟩ = some (.int .i64 x.dst.kind) ∧ w'.cell? ⟨V, 4, none⟩ = some (.int .i64 x.dst.cls) ∧ w'.cell? ⟨V, 5, none⟩ = some (.int .i64 x.dst.n) ∧ w'.cell? ⟨G, cs, none⟩ = some (.int .i64 hv)) 11 (by kernel_rfl) (HSG.out _ (Below.refl _ _).drew) (fun hHeld => ?_)
                refine wpXt (v := ?_) 0 rfl (by kernel_rfl) (fun _ _ _ h => h) (by rfl) ?_ hHeld ?_
                rotate_left
                · intro w' hSw
                  go_simp <;> with_reducible rfl
                try simp only [Act.put, List.setIfInBounds_toArray, List.set_cons_zero, List.set_cons_succ]
                refine wpXt (v := ?_) 1 rfl (by kernel_rfl) (fun _ _ _ h => h) (by rfl) ?_ hHeld ?_
                rotate_left
                · intro w' hSw
                  go_simp <;> with_reducible rfl
                try simp only [Act.put, List.setIfInBounds_toArray, List.set_cons_zero, List.set_cons_succ]
                refine wpXt (v := ?_) 2 rfl (by kernel_rfl) (fun _ _ _ h => h) (by rfl) ?_ hHeld ?_
                rotate_left
                · intro w' hSw
                  go_simp <;> with_reducible rfl
                try simp only [Act.put, List.setIfInBounds_toArray, List.set_cons_zero, List.set_cons_succ]
                refine wpXt (v := ?_) 4 rfl (by kernel_rfl) (fun _ _ _ h => h) (by rfl) ?_ hHeld ?_
                rotate_left
                · intro w' hSw
                  go_simp <;> with_reducible rfl
                try simp only [Act.put, List.setIfInBounds_toArray, List.set_cons_zero, List.set_cons_succ]
                refine wpXt (v := ?_) 5 rfl (by kernel_rfl) (fun _ _ _ h => h) (by rfl) ?_ hHeld ?_
                rotate_left
                · intro w' hSw
                  go_simp <;> with_reducible rfl
                try simp only [Act.put, List.setIfInBounds_toArray, List.set_cons_zero, List.set_cons_succ]
                refine wpXt (v := ?_) 6 rfl (by kernel_rfl) (fun _ _ _ h => h) (by rfl) ?_ hHeld ?_
                rotate_left
                · intro w' hSw
                  go_simp <;> with_reducible rfl
                try simp only [Act.put, List.setIfInBounds_toArray, List.set_cons_zero, List.set_cons_succ]
                refine wpXs 3 rfl (by kernel_rfl) (fun K hK => ?_)
                go_simp
                refine (HC1 _).mono ?_
                clear HC1
                rintro e w4 ⟨rfl, hb4⟩
                have hd4 := ((Below.refl W3.heap.size W3).drew).trans hb4
                refine hK.out _ _ (HSG.out _ hd4) (fun hHeld => ?_)
                clear hK K
                try simp only [Act.put, List.setIfInBounds_toArray, List.set_cons_zero, List.set_cons_succ]
                refine wpXs 7 rfl (by kernel_rfl) (fun K hK => ?_)
                go_simp
                refine (HC2 _).mono ?_
                clear HC2
                rintro e w5 ⟨rfl, hb5⟩
                have hd5 := hd4.trans (hb5.mono hd4.size)
                have I5 := HI3.out.below hd5
                obtain ⟨hh, rr, _⟩ := I5.row
                have fz := rr.frozen cd
                have fc := rr.cell (i := cd) hcd2
                refine hK.out _ _ (HSG.out _ hd5) (fun hHeld => ?_)
                clear hK K
                try simp only [Act.put, List.setIfInBounds_toArray, List.set_cons_zero, List.set_cons_succ]
                refine wpXt (v := ?_) 8 rfl (by kernel_rfl) (fun _ _ _ h => h) (by rfl) ?_ hHeld ?_
                rotate_left
                · intro w' hSw
                  go_simp <;> with_reducible rfl
                try simp only [Act.put, List.setIfInBounds_toArray, List.set_cons_zero, List.set_cons_succ]
                refine wpXt (v := ?_) 9 rfl (by kernel_rfl) (fun _ _ _ h => h) (by rfl) ?_ hHeld ?_
                rotate_left
                · intro w' hSw
                  go_simp <;> with_reducible rfl
                try simp only [Act.put, List.setIfInBounds_toArray, List.set_cons_zero, List.set_cons_succ]
                refine wpXt (v := ?_) 10 rfl (by kernel_rfl) (fun _ _ _ h => h) (by rfl) ?_ hHeld ?_
                rotate_left
                · intro w' hSw
                  go_simp <;> with_reducible rfl
                try simp only [Act.put, List.setIfInBounds_toArray, List.set_cons_zero, List.set_cons_succ]
                refine wpXl 11 rfl (by kernel_rfl) rfl (by kernel_rfl) (fun K hK => ?_)
                go_simp
                refine hK.out _ _ ?_
                clear hK K
                have HE : Hid (CellI W9 G 10 10 (k : Int) (runMvs id (done.take (j + 1))) (w5.setCell ⟨G, cd, none⟩ (.int .i64 hv))) := by
                  have h := CellI.step HRB.out.1 HRB.out.2.1 HRB.out.2.2 I5 HX.out.1 HX.out.2.1 HX.out.2.2.symm
                  rw [HT.out, runMvs_append]
                  exact h
                clear I5 rr fz fc hHeld hd4 hd5
                go_wp2
                --CUTh2
                exact ⟨⟨.bool false, .pointer (some ⟨V, 0, none⟩), .int .i64 ((j : Int) + 1), ⟨j + 1, by omega, by simp, rfl, HE.out⟩, rfl, rfl, rfl⟩, by simp [intOf]; omega⟩
            · have hjn2 : j = no := by omega
              subst hjn2
              have HCELL : Hid (CellI W9 G 10 10 (k : Int) (runMvs id done) wr) := by
                have h := HI.out
                rw [List.take_of_length_le (by rw [HONE.out.2.1]; exact Nat.le_refl _)] at h
                exact h
              clear HI
              --CUTg4
              go_upto_region 25 with fail
              --CUT14
              go_loopw [16] (fun i wr => ∃ j : Nat, j ≤ k ∧ i = .int .i64 j ∧ Hid (CellI W9 G 10 10 (k : Int) (runMvs id done) wr)) (fun i _ => k - (intOf i).toNat)
              case atStart => exact ⟨0, Nat.zero_le _, rfl, HCELL⟩
              case round =>
                clear HCELL
                obtain ⟨i, hi, rfl, HI⟩ := hrel
                by_cases hlt3 : i < k
                · have ro := cell_src HI.out HONE.out.2.2 (slot_real (R := 10) (fr := (k : Int)) (n := (i : Int)) (by omega) (by omega)) (rev_src hlt3) (c := 100 + i) (by simp [cellK]) (by omega)
                  rw [show cellK ⟨2, 0, (k : Int) - 1 - (i : Int)⟩ = 100 + (k : Int) - 1 - (i : Int) from by simp [cellK]; omega] at ro
                  have x1 : IntKind.i64.wrap (100 + (i : Int)) = ((100 + i : Nat) : Int) := by rw [IntKind.wrap_i64]; omega
                  have x2 : IntKind.i64.wrap (100 + (k : Int)) = 100 + (k : Int) := by rw [IntKind.wrap_i64]; omega
                  have x3 : IntKind.i64.wrap (100 + (k : Int) - 1) = 100 + (k : Int) - 1 := by rw [IntKind.wrap_i64]; omega
                  have x5 : IntKind.i64.wrap (100 + (k : Int) - 1 - (i : Int)) = 100 + (k : Int) - 1 - (i : Int) := by rw [IntKind.wrap_i64]; omega
                  have x4 : ((100 + i : Nat) : Int) < 200 := by omega
                  have HI2 : Hid (CellI W9 G 10 10 (k : Int) (runMvs id done) wr) := HI
                  clear HI
                  go_wp2
                  --CUT15
                  exact ⟨⟨i + 1, by omega, by simp, HI2⟩, by simp [intOf]; omega⟩
                · have HFB : Hid (Below w.heap.size w wr) := HB6.out.trans ((HB9.out.trans (HI.out.kq.below (B := w6.heap.size) HB9.out.size (Nat.le_of_eq HGG.out) (Nat.le_of_eq HGG.out) (Nat.le_of_eq HGG.out) (fun g hg => by cases hg))).mono HB6.out.size)
                  clear HI
                  --CUT16
                  go_wp2
                  --CUT17
                  go_ret
                  exact ⟨by simp, HFB.out⟩
end Go.Proofs.Ytdlglinbjkaokab
