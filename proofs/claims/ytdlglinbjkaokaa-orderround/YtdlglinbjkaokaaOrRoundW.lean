/-
  The walk of OrderRound.
-/
import Derived.Test.YtdlglinbjkaokaaOrU
namespace Go.Proofs.Ytdlglinbjkaokaa
open Go.RowKit
set_option linter.unusedVariables false

def rndM (c : Int) (k j : Nat) : Mv := ⟨⟨1, c, (j : Int)⟩, ⟨1, c, (((j + 1) % k : Nat) : Int)⟩⟩
theorem rnd_real {R c : Int} {k : Nat} (hc : c = 0 ∨ c = 1) (hk : (k : Int) ≤ R) (i : Nat) (hi : i < k) : RealP R R 0 ⟨1, c, (i : Int)⟩ := by
  refine Or.inl ⟨rfl, hc, by show (0 : Int) ≤ (i : Int); omega, ?_⟩
  show (i : Int) < regsR R R c
  unfold regsR
  split <;> omega
theorem rnd_chk {R c : Int} {k : Nat} (hc : c = 0 ∨ c = 1) (hk : (k : Int) ≤ R) (i : Nat) (hi : i < k) : chkE R R 0 (rndM c k i) c = 0 := by
  have h1 := real_iff.2 (rnd_real (R := R) hc hk i hi)
  have h2 := real_iff.2 (rnd_real (R := R) hc hk ((i + 1) % k) (Nat.mod_lt _ (by omega)))
  have s : ∀ n, suitO c ⟨1, c, n⟩ = true := fun n => by simp [suitO]
  unfold chkE rndM holdO
  rw [if_neg (by omega), if_neg (by omega), if_neg (by simp only [h1]; simp), if_neg (by simp only [h2]; simp), if_neg (by rw [s]; simp), if_neg (by rw [s]; simp)]
theorem rnd_inj {k a b : Nat} (ha : a < k) (hb : b < k) (h : (a + 1) % k = (b + 1) % k) : a = b := by
  rcases Nat.lt_or_ge (a + 1) k with h1 | h1
  · rcases Nat.lt_or_ge (b + 1) k with h2 | h2
    · rw [Nat.mod_eq_of_lt h1, Nat.mod_eq_of_lt h2] at h
      omega
    · have e : b + 1 = k := by omega
      rw [Nat.mod_eq_of_lt h1, e, Nat.mod_self] at h
      omega
  · have e : a + 1 = k := by omega
    rcases Nat.lt_or_ge (b + 1) k with h2 | h2
    · rw [Nat.mod_eq_of_lt h2, e, Nat.mod_self] at h
      omega
    · omega
theorem rnd_nd (c : Int) (k : Nat) : (dsts (mvF (rndM c k) k)).Nodup := by
  refine mvF_nd fun a b ha hb h => ?_
  have := congrArg Pl.n h
  unfold rndM at this
  simp only at this
  exact rnd_inj ha hb (by omega)
theorem rem_nat (j k : Nat) : Int.tmod ((j : Int) + 1) (k : Int) = (((j + 1) % k : Nat) : Int) := by
  have : (j : Int) + 1 = ((j + 1 : Nat) : Int) := by omega
  rw [this]
  exact (Int.ofNat_tmod (j + 1) k).symm
set_option maxRecDepth 8000 in
set_option maxHeartbeats 32000000 in
theorem orderRound_walk (a : Int) (wa : (Lit.int .i64 a).wf = true) (n : Int) (wn : (Lit.int .i64 n).wf = true) (q : Int) (wq : (Lit.int .i64 q).wf = true) (w : World) :
    Calls Try.prog 5 #[.int .i64 a, .int .i64 n, .int .i64 q] w fun e w' => e = .returned (.bool true) ∧ Below w.heap.size w w' := by
  have bds : ∀ x : Int, (Lit.int .i64 x).wf = true → -9223372036854775808 ≤ x ∧ x ≤ 9223372036854775807 := fun x hx => by
    simp only [Lit.wf, IntKind.min, IntKind.max, IntKind.signed, IntKind.bits, Bool.and_eq_true, decide_eq_true_eq, if_true] at hx
    exact ⟨by omega, by omega⟩
  obtain ⟨a1, a2⟩ := bds a wa
  obtain ⟨n1, n2⟩ := bds n wn
  obtain ⟨q1, q2⟩ := bds q wq
  obtain ⟨p0, p1⟩ := pickedOf_bd a 9 (by omega)
  obtain ⟨R, hR⟩ : ∃ R, 2 + pickedOf a 9 = R := ⟨_, rfl⟩
  have hR1 : 2 ≤ R := by omega
  have hR2 : R ≤ 10 := by omega
  obtain ⟨cN, hc⟩ : ∃ cN : Nat, pickedOf q 2 = (cN : Int) := ⟨(pickedOf q 2).toNat, by have := pickedOf_bd q 2 (by omega); omega⟩
  have hcN2 : cN < 2 := by have := pickedOf_bd q 2 (by omega); omega
  have hcc : (cN : Int) = 0 ∨ (cN : Int) = 1 := by omega
  obtain ⟨z, hz⟩ : ∃ z, pickedOf n (R - 1) = z := ⟨_, rfl⟩
  have hz0 : 0 ≤ z ∧ z < R - 1 := by rw [← hz]; exact pickedOf_bd n (R - 1) (by omega)
  obtain ⟨k, hk⟩ : ∃ k : Nat, 2 + z = (k : Int) := ⟨(2 + z).toNat, by omega⟩
  have hk2 : 2 ≤ k := by omega
  have hkR : (k : Int) ≤ R := by omega
  have hk10 : k ≤ 10 := by omega
  have HMA := machine_any a a w a1 a2 a1 a2
  rw [hR] at HMA
  have HPC := fun W' => picked_is q 2 (cN : Int) W' hc q1 q2 (by omega) (by omega)
  have HPN := fun W' => picked_is n (R - 1) z W' hz n1 n2 (by omega) (by omega)
  have hw1 : IntKind.i64.wrap (R - 1) = R - 1 := by rw [IntKind.wrap_i64]; omega
  have hw2 : IntKind.i64.wrap (2 + z) = (k : Int) := by rw [IntKind.wrap_i64]; omega
  have HOE : Hid (ordE R R 0 (mvF (rndM (cN : Int) k) k) (List.replicate k (cN : Int)) = 0) := by
    have h := ordE_rep (R := R) (fr := 0) (l := mvF (rndM (cN : Int) k) k) (c := (cN : Int)) hR1 hR2 (by omega) (by rw [mvF_len]; omega) (fun m hm => by
      obtain ⟨i, hi, rfl⟩ := mvF_mem.1 hm
      exact rnd_chk hcc hkR i hi) (rnd_nd (cN : Int) k)
    rw [mvF_len] at h
    exact h
  have HKK : Hid (2 + z = (k : Int)) := hk
  have hz1 : z < R - 1 := hz0.2
  have hzz : 0 ≤ z := hz0.1
  clear hR hc hz p0 p1 hk hz0
  go_enter Try.func5, Try.ntmps5
  --CUT1
  go_wp2_with fail
  refine HMA.mono ?_
  clear HMA
  rintro e w1 ⟨rfl, hb1⟩
  obtain ⟨M, hM⟩ : ∃ M, w1.heap.size = M := ⟨_, rfl⟩
  obtain ⟨W, hW⟩ : ∃ W, W = w1.alloc (.cells #[.int .i64 R, .int .i64 R] 24) := ⟨_, rfl⟩
  have hbW : Below w1.heap.size w1 W := by rw [hW]; exact (Below.refl _ _).alloc (Nat.le_refl _) _
  have tW := topO w1 #[.int .i64 R, .int .i64 R] 24
  rw [← hW, hM] at tW
  have zM : M < W.heap.size := by rw [hW, ← hM]; simp
  have m0 : W.cell? ⟨M, 0, none⟩ = some (.int .i64 R) := tW 0
  have m1 : W.cell? ⟨M, 1, none⟩ = some (.int .i64 R) := tW 1
  have HW : Hid (W = w1.alloc (.cells #[.int .i64 R, .int .i64 R] 24)) := hW
  have HM : Hid (w1.heap.size = M) := hM
  have HBW : Hid (Below w.heap.size w W) := hb1.trans (hbW.mono hb1.size)
  clear hM hW hbW tW hb1
  go_upto_region 2 with fail
  rw [← HW.out, HM.out]
  go_upto_region 3 with (go_at_call 15; refine (HPC _).mono ?_; rintro e w' ⟨rfl, hw'⟩; rw [hw']; clear hw' w')
  have HGT0 : Hid (GrT W W.heap.size (.slice none 0 0) (.slice none 0 0) (mvF (rndM (cN : Int) k) 0) (List.replicate 0 (cN : Int)) W) := GrT.nil W
  have mc : W.cell? ⟨M, cN, none⟩ = some (.int .i64 R) := by
    rcases (show cN = 0 ∨ cN = 1 by omega) with e | e <;> rw [e] <;> assumption
  --CUT2
  go_upto_region 7 with (go_at_call 15; refine (HPN _).mono ?_; rintro e w' ⟨rfl, hw'⟩; rw [hw']; clear hw' w')
  --CUT3
  go_loopw [12, 10, 11] (fun i s v wr => ∃ (j : Nat) (a6 : Option Addr) (c6 : Nat) (a7 : Option Addr) (c7 : Nat), j ≤ k ∧ i = .int .i64 j ∧ s = .slice a6 j c6 ∧ v = .slice a7 j c7 ∧ Hid (GrT W W.heap.size (.slice a6 j c6) (.slice a7 j c7) (mvF (rndM (cN : Int) k) j) (List.replicate j (cN : Int)) wr)) (fun i _ _ _ => k - (intOf i).toNat)
  case atStart => exact ⟨0, none, 0, none, 0, Nat.zero_le _, rfl, rfl, rfl, HGT0⟩
  case round =>
    clear HGT0
    obtain ⟨j, a6, c6, a7, c7, hj, rfl, rfl, rfl, HI⟩ := hrel
    by_cases hlt : j < k
    · have ho6 := HI.out.o6
      rw [mvF_len] at ho6
      obtain ⟨g6, cap6, w3, hr6, o6, hg6, at6⟩ := app_moves ho6 HI.out.le [rndM (cN : Int) k j] #[.int .i64 1, .int .i64 (cN : Int), .int .i64 (j : Int), .int .i64 1, .int .i64 (cN : Int), .int .i64 (((j + 1) % k : Nat) : Int)] rfl 1 rfl (by omega) (by omega) 1 25
      have k3 := HI.out.push6 (m := rndM (cN : Int) k j) (by rw [mvF_len]; exact o6) hg6 at6
      rw [mvF_len] at k3
      have ho7 := k3.o7
      rw [List.length_replicate] at ho7
      obtain ⟨g7, cap7, w4, hr7, o7, hg7, at7⟩ := app_int ho7 k3.le (cN : Int) (by omega) 26
      have k4 := k3.push7 (x := (cN : Int)) (by rw [List.length_replicate]; exact o7) hg7 at7
      rw [List.length_replicate] at k4
      have HE : Hid (GrT W W.heap.size (.slice (some ⟨g6, 0, none⟩) (j + 1) cap6) (.slice (some ⟨g7, 0, none⟩) (j + 1) cap7) (mvF (rndM (cN : Int) k) (j + 1)) (List.replicate (j + 1) (cN : Int)) w4) := by
        show GrT _ _ _ _ _ _ _
        rw [mvF_succ, rep_succ]
        exact k4
      have hrem := rem_nat j k
      clear HI ho6 o6 hg6 at6 k3 ho7 o7 hg7 at7 k4
      --CUT4
      go_wp2_with (first | (at_builtin; refine wpL_append rfl _ _ _ rfl rfl rfl hr6 ?_) | (at_builtin; refine wpL_append rfl _ _ _ rfl rfl rfl hr7 ?_))
      --CUT5
      exact ⟨⟨j + 1, _, _, _, _, by omega, by simp, rfl, rfl, HE⟩, by simp [intOf]; omega⟩
    · have hjn : k = j := by omega
      subst hjn
      obtain ⟨sl1, sl2⟩ := HI.out.sl (by rw [mvF_len]; unfold longest; omega) (by rw [List.length_replicate]; unfold longest; omega)
      have HO := order_any R R 0 _ _ _ _ wr sl1 sl2 (fun m hm => by
        obtain ⟨i, hi, rfl⟩ := mvF_mem.1 hm
        have : (i + 1) % k < k := Nat.mod_lt _ (by omega)
        refine ⟨⟨?_, ?_, ?_⟩, ⟨?_, ?_, ?_⟩⟩ <;> (unfold rndM I64) <;> simp only <;> constructor <;> omega)
      rw [HOE.out] at HO
      have n0 := (HI.out.low.cell (p := ⟨M, 0, none⟩) zM).trans m0
      have n1' := (HI.out.low.cell (p := ⟨M, 1, none⟩) zM).trans m1
      have HBr : Hid (Below w.heap.size w wr) := HBW.out.trans (HI.out.low.mono HBW.out.size)
      clear HI sl1 sl2 m0 m1 mc
      go_upto_region 12 with (go_at_call 10; refine HO.mono ?_; clear HO; rintro e w6 ⟨hb6, v6, rfl, -, hv6⟩)
      obtain ⟨done, hsl, hrt⟩ := hv6 trivial
      obtain ⟨ao, co, rfl, -⟩ := hsl.out
      obtain ⟨no, hno⟩ : ∃ no, done.length = no := ⟨_, rfl⟩
      rw [hno] at hsl ⊢
      have HONE : Hid (SlOf w6 6 RMv (.slice ao no co) done ∧ done.length = no ∧ RightO R R 0 (mvF (rndM (cN : Int) k) k) done) := ⟨hsl, hno, hrt⟩
      have HRB : Hid (R ≤ 10 ∧ R ≤ 10 ∧ (0 : Int) ≤ 50) := ⟨hR2, hR2, by omega⟩
      have hno2 : no ≤ 1000000 := by have := hrt.len; rw [mvF_len] at this; omega
      have HB6 : Hid (Below w.heap.size w w6) := HBr.out.trans (hb6.mono HBr.out.size)
      clear hv6 hsl hno hrt hb6 n0 n1' HBr HOE
      --CUT6
      obtain ⟨G, hG⟩ : ∃ G, w6.heap.size = G := ⟨_, rfl⟩
      obtain ⟨W9, hW9⟩ : ∃ W9, W9 = w6.alloc (.cells (madeCells #[.int .i64 0] 200) 3) := ⟨_, rfl⟩
      have hb9 : Below w6.heap.size w6 W9 := by rw [hW9]; exact (Below.refl _ _).alloc (Nat.le_refl _) _
      have rG := World.rowIs_made w6 (.int .i64 0) 200 3
      rw [← hW9, hG] at rG
      have hmk := run_make_row' (P := Try.prog) 26 3 (.int .i64 0) 8 Try.underlying26 (by kernel_rfl) rfl .i64 .i64 200 (by omega) (by omega)
      simp only [show ((200 : Nat) : Int) = 200 from rfl] at hmk
      have HG0 : Hid (Kq G G G nilV nilV W9 W9 ∧ W9.rowIs G 3 200 (fun i => if i < 0 then .int .i64 (i : Int) else .int .i64 0)) := ⟨Kq.refl _ _ _ _ _, rG.congr fun i hi => by simp⟩
      have HW9 : Hid (W9 = w6.alloc (.cells (madeCells #[.int .i64 0] 200) 3)) := hW9
      have HGG : Hid (w6.heap.size = G) := hG
      have HB9 : Hid (Below w6.heap.size w6 W9) := hb9
      clear hG hW9 hb9 rG
      go_upto_region 14 with fail
      rw [← HW9.out, HGG.out]
      --CUTg1
      go_loopw [65] (fun i wr => ∃ j : Nat, j ≤ 200 ∧ i = .int .i64 j ∧ Hid (Kq G G G nilV nilV W9 wr ∧ wr.rowIs G 3 200 (fun i => if i < j then .int .i64 (i : Int) else .int .i64 0))) (fun i _ => 200 - (intOf i).toNat)
      case atStart => exact ⟨0, Nat.zero_le _, rfl, HG0.out⟩
      case round =>
        clear HG0 hmk
        obtain ⟨j, hj, rfl, HI⟩ := hrel
        by_cases hlt : j < 200
        · have r1 := HI.out.2.cell (i := j) hlt
          have r2 := HI.out.2.frozen j
          rw [if_neg (Nat.lt_irrefl j)] at r1
          have HE : Hid (Kq G G G nilV nilV W9 (wr.setCell ⟨G, j, none⟩ (.int .i64 (j : Int))) ∧ (wr.setCell ⟨G, j, none⟩ (.int .i64 (j : Int))).rowIs G 3 200 (fun i => if i < j + 1 then .int .i64 (i : Int) else .int .i64 0)) := by
            have h := HI.out.1
            refine ⟨⟨h.os, h.tape, h.output, by simpa [World.setCell] using h.size, fun q hq n1 n2 n3 n4 => (Below.heap_setCell _ _ _ _ (by show q ≠ G; exact n1)).trans (h.block q hq n1 n2 n3 n4), h.own⟩, (HI.out.2.set j _).congr fun i hi => ?_⟩
            by_cases e : i = j
            · subst e
              simp
            · rw [if_neg e]
              by_cases e2 : i < j
              · rw [if_pos e2, if_pos (by omega)]
              · rw [if_neg e2, if_neg (by omega)]
          clear HI
          go_wp2
          exact ⟨⟨j + 1, by omega, by simp, HE.out⟩, by simp [intOf]; omega⟩
        · have hjn : j = 200 := by omega
          subst hjn
          have HI3 : Hid (CellI W9 G R R 0 (runMvs id (done.take 0)) wr) := by
            refine CellI.start HRB.out.1 HRB.out.2.1 HRB.out.2.2 HI.out.1 (HI.out.2.congr fun i hi => by rw [if_pos hi])
          clear HI
          go_upto_region 19 with fail
          --CUTg2
          go_loopw [75] (fun i wr => ∃ j : Nat, j ≤ no ∧ i = .int .i64 j ∧ Hid (CellI W9 G R R 0 (runMvs id (done.take j)) wr)) (fun i _ => no - (intOf i).toNat)
          case atStart => exact ⟨0, Nat.zero_le _, rfl, HI3⟩
          case round =>
            clear HI3
            obtain ⟨j, hj, rfl, HI⟩ := hrel
            by_cases hlt2 : j < no
            · have hjl : j < done.length := by rw [HONE.out.2.1]; exact hlt2
              have hq := HB9.out.trans (HI.out.kq.below (B := w6.heap.size) HB9.out.size (Nat.le_of_eq HGG.out) (Nat.le_of_eq HGG.out) (Nat.le_of_eq HGG.out) (fun g hg => by cases hg))
              obtain ⟨b8, off8, rfl, hb8, e0, e1, e2, e3, e4, e5⟩ := mv_at HONE.out.1 j hjl
              replace e0 := (hq.cell (p := ⟨b8, _, none⟩) hb8).trans e0
              replace e1 := (hq.cell (p := ⟨b8, _, none⟩) hb8).trans e1
              replace e2 := (hq.cell (p := ⟨b8, _, none⟩) hb8).trans e2
              replace e3 := (hq.cell (p := ⟨b8, _, none⟩) hb8).trans e3
              replace e4 := (hq.cell (p := ⟨b8, _, none⟩) hb8).trans e4
              replace e5 := (hq.cell (p := ⟨b8, _, none⟩) hb8).trans e5
              obtain ⟨x, hxe⟩ : ∃ x, done[j] = x := ⟨_, rfl⟩
              have hx := HONE.out.2.2.legal x (by rw [← hxe]; exact List.getElem_mem hjl)
              have HT : Hid (done.take (j + 1) = done.take j ++ [x]) := by show _ = _; rw [← hxe]; exact List.take_succ_eq_append_getElem hjl
              rw [hxe] at e0 e1 e2 e3 e4 e5
              have hbs := cellK_bd HRB.out.1 HRB.out.2.1 HRB.out.2.2 hx.a
              have hbd := cellK_bd HRB.out.1 HRB.out.2.1 HRB.out.2.2 hx.b
              obtain ⟨cs, hcs⟩ : ∃ cs : Nat, cellK x.src = (cs : Int) := ⟨(cellK x.src).toNat, by omega⟩
              obtain ⟨cd, hcd⟩ : ∃ cd : Nat, cellK x.dst = (cd : Int) := ⟨(cellK x.dst).toNat, by omega⟩
              have hcs2 : cs < 200 := by omega
              have hcd2 : cd < 200 := by omega
              have hcs3 : (cs : Int) < 200 := by omega
              have hcd3 : (cd : Int) < 200 := by omega
              have HC1 := fun W' => may_cell HRB.out.1 HRB.out.2.1 HRB.out.2.2 hx.b W'
              have HC2 := fun W' => may_cell HRB.out.1 HRB.out.2.1 HRB.out.2.2 hx.a W'
              rw [hcd] at HC1
              rw [hcs] at HC2
              obtain ⟨hv, hhv⟩ : ∃ hv, cellK (runMvs id (done.take j) x.src) = hv := ⟨_, rfl⟩
              obtain ⟨V, hV⟩ : ∃ V, wr.heap.size = V := ⟨_, rfl⟩
              obtain ⟨W3, hW3⟩ : ∃ W3, W3 = wr.alloc (.cells #[.int .i64 x.src.kind, .int .i64 x.src.cls, .int .i64 x.src.n, .int .i64 x.dst.kind, .int .i64 x.dst.cls, .int .i64 x.dst.n] 36) := ⟨_, rfl⟩
              have hb3 : Below wr.heap.size wr W3 := by rw [hW3]; exact (Below.refl _ _).alloc (Nat.le_refl _) _
              have t3 := topO wr #[.int .i64 x.src.kind, .int .i64 x.src.cls, .int .i64 x.src.n, .int .i64 x.dst.kind, .int .i64 x.dst.cls, .int .i64 x.dst.n] 36
              rw [← hW3, hV] at t3
              have zV : V < W3.heap.size := by rw [hW3, ← hV]; simp
              have I3 := HI.out.below hb3
              have HSG : Hid (∀ w', Below W3.heap.size W3 w' → (fun w' => w'.cell? ⟨V, 0, none⟩ = some (.int .i64 x.src.kind) ∧ w'.cell? ⟨V, 1, none⟩ = some (.int .i64 x.src.cls) ∧ w'.cell? ⟨V, 2, none⟩ = some (.int .i64 x.src.n) ∧ w'.cell? ⟨V, 3, none⟩ = some (.int .i64 x.dst.kind) ∧ w'.cell? ⟨V, 4, none⟩ = some (.int .i64 x.dst.cls) ∧ w'.cell? ⟨V, 5, none⟩ = some (.int .i64 x.dst.n) ∧ w'.cell? ⟨G, cs, none⟩ = some (.int .i64 hv)) w') := fun w' hh => by
                obtain ⟨hf, rr, h2⟩ := (I3.below hh).row
                refine ⟨(hh.cell (p := ⟨V, 0, none⟩) zV).trans (t3 0), (hh.cell (p := ⟨V, 1, none⟩) zV).trans (t3 1), (hh.cell (p := ⟨V, 2, none⟩) zV).trans (t3 2), (hh.cell (p := ⟨V, 3, none⟩) zV).trans (t3 3), (hh.cell (p := ⟨V, 4, none⟩) zV).trans (t3 4), (hh.cell (p := ⟨V, 5, none⟩) zV).trans (t3 5), ?_⟩
                have h3 := h2 x.src hx.a
                have h4 := rr.cell (i := cs) hcs2
                rw [hcs, Int.toNat_natCast, hhv] at h3
                rw [h3] at h4
                exact h4
              have HI3 : Hid (CellI W9 G R R 0 (runMvs id (done.take j)) W3) := I3
              have HX : Hid (LegalM R R 0 x ∧ cellK x.dst = (cd : Int) ∧ cellK (runMvs id (done.take j) x.src) = hv) := ⟨hx, hcd, hhv⟩
              have HW3 : Hid (W3 = wr.alloc (.cells #[.int .i64 x.src.kind, .int .i64 x.src.cls, .int .i64 x.src.n, .int .i64 x.dst.kind, .int .i64 x.dst.cls, .int .i64 x.dst.n] 36)) := hW3
              have HVV : Hid (wr.heap.size = V) := hV
              clear hq hb8 hxe hW3 hV hb3 t3 I3 hcs hcd hhv hbs hbd HI hx
              go_upto_region 21 with fail
              rw [← HW3.out, HVV.out]
              clear HW3 e0 e1 e2 e3 e4 e5
              --CUTg3
              refine wp_region_X (fun w' => w'.cell? ⟨V, 0, none⟩ = some (.int .i64 x.src.kind) ∧ w'.cell? ⟨V, 1, none⟩ = some (.int .i64 x.src.cls) ∧ w'.cell? ⟨V, 2, none⟩ = some (.int .i64 x.src.n) ∧ w'.cell? ⟨V, 3, none⟩ = some (.int .i64 x.dst.kind) ∧ w'.cell? ⟨V, 4, none⟩ = some (.int .i64 x.dst.cls) ∧ w'.cell? ⟨V, 5, none⟩ = some (.int .i64 x.dst.n) ∧ w'.cell? ⟨G, cs, none⟩ = some (.int .i64 hv)) 11 (by kernel_rfl) (HSG.out _ (Below.refl _ _).drew) (fun hHeld => ?_)
              refine wpXt (v := ?_) 0 rfl (by kernel_rfl) (fun _ _ _ h => h) (by rfl) ?_ hHeld ?_
              rotate_left
              · intro w' hSw
                go_simp <;> with_reducible rfl
              try simp only [Act.put, List.setIfInBounds_toArray, List.set_cons_zero, List.set_cons_succ]
              refine wpXt (v := ?_) 1 rfl (by kernel_rfl) (fun _ _ _ h => h) (by rfl) ?_ hHeld ?_
              rotate_left
              · intro w' hSw
                go_simp <;> with_reducible rfl
              try simp only [Act.put, List.setIfInBounds_toArray, List.set_cons_zero, List.set_cons_succ]
              refine wpXt (v := ?_) 2 rfl (by kernel_rfl) (fun _ _ _ h => h) (by rfl) ?_ hHeld ?_
              rotate_left
              · intro w' hSw
                go_simp <;> with_reducible rfl
              try simp only [Act.put, List.setIfInBounds_toArray, List.set_cons_zero, List.set_cons_succ]
              refine wpXt (v := ?_) 4 rfl (by kernel_rfl) (fun _ _ _ h => h) (by rfl) ?_ hHeld ?_
              rotate_left
              · intro w' hSw
                go_simp <;> with_reducible rfl
              try simp only [Act.put, List.setIfInBounds_toArray, List.set_cons_zero, List.set_cons_succ]
              refine wpXt (v := ?_) 5 rfl (by kernel_rfl) (fun _ _ _ h => h) (by rfl) ?_ hHeld ?_
              rotate_left
              · intro w' hSw
                go_simp <;> with_reducible rfl
              try simp only [Act.put, List.setIfInBounds_toArray, List.set_cons_zero, List.set_cons_succ]
              refine wpXt (v := ?_) 6 rfl (by kernel_rfl) (fun _ _ _ h => h) (by rfl) ?_ hHeld ?_
              rotate_left
              · intro w' hSw
                go_simp <;> with_reducible rfl
              try simp only [Act.put, List.setIfInBounds_toArray, List.set_cons_zero, List.set_cons_succ]
              refine wpXs 3 rfl (by kernel_rfl) (fun K hK => ?_)
              go_simp
              refine (HC1 _).mono ?_
              clear HC1
              rintro e w4 ⟨rfl, hb4⟩
              have hd4 := ((Below.refl W3.heap.size W3).drew).trans hb4
              refine hK.out _ _ (HSG.out _ hd4) (fun hHeld => ?_)
              clear hK K
              try simp only [Act.put, List.setIfInBounds_toArray, List.set_cons_zero, List.set_cons_succ]
              refine wpXs 7 rfl (by kernel_rfl) (fun K hK => ?_)
              go_simp
              refine (HC2 _).mono ?_
              clear HC2
              rintro e w5 ⟨rfl, hb5⟩
              have hd5 := hd4.trans (hb5.mono hd4.size)
              have I5 := HI3.out.below hd5
              obtain ⟨hh, rr, _⟩ := I5.row
              have fz := rr.frozen cd
              have fc := rr.cell (i := cd) hcd2
              refine hK.out _ _ (HSG.out _ hd5) (fun hHeld => ?_)
              clear hK K
              try simp only [Act.put, List.setIfInBounds_toArray, List.set_cons_zero, List.set_cons_succ]
              refine wpXt (v := ?_) 8 rfl (by kernel_rfl) (fun _ _ _ h => h) (by rfl) ?_ hHeld ?_
              rotate_left
              · intro w' hSw
                go_simp <;> with_reducible rfl
              try simp only [Act.put, List.setIfInBounds_toArray, List.set_cons_zero, List.set_cons_succ]
              refine wpXt (v := ?_) 9 rfl (by kernel_rfl) (fun _ _ _ h => h) (by rfl) ?_ hHeld ?_
              rotate_left
              · intro w' hSw
                go_simp <;> with_reducible rfl
              try simp only [Act.put, List.setIfInBounds_toArray, List.set_cons_zero, List.set_cons_succ]
              refine wpXt (v := ?_) 10 rfl (by kernel_rfl) (fun _ _ _ h => h) (by rfl) ?_ hHeld ?_
              rotate_left
              · intro w' hSw
                go_simp <;> with_reducible rfl
              try simp only [Act.put, List.setIfInBounds_toArray, List.set_cons_zero, List.set_cons_succ]
              refine wpXl 11 rfl (by kernel_rfl) rfl (by kernel_rfl) (fun K hK => ?_)
              go_simp
              refine hK.out _ _ ?_
              clear hK K
              have HE : Hid (CellI W9 G R R 0 (runMvs id (done.take (j + 1))) (w5.setCell ⟨G, cd, none⟩ (.int .i64 hv))) := by
                have h := CellI.step HRB.out.1 HRB.out.2.1 HRB.out.2.2 I5 HX.out.1 HX.out.2.1 HX.out.2.2.symm
                rw [HT.out, runMvs_append]
                exact h
              clear I5 rr fz fc hHeld hd4 hd5
              go_wp2
              exact ⟨⟨j + 1, by omega, by simp, HE.out⟩, by simp [intOf]; omega⟩
            · have hjn2 : j = no := by omega
              subst hjn2
              have HCELL : Hid (CellI W9 G R R 0 (runMvs id done) wr) := by
                have h := HI.out
                rw [List.take_of_length_le (by rw [HONE.out.2.1]; exact Nat.le_refl _)] at h
                exact h
              clear HI
              --CUTg4
              go_upto_region 24 with fail
              --CUT7
              go_loopw [19] (fun i wr => ∃ j : Nat, j ≤ k ∧ i = .int .i64 j ∧ Hid (CellI W9 G R R 0 (runMvs id done) wr)) (fun i _ => k - (intOf i).toNat)
              case atStart => exact ⟨0, Nat.zero_le _, rfl, HCELL⟩
              case round =>
                clear HCELL
                obtain ⟨j, hj, rfl, HI⟩ := hrel
                by_cases hlt3 : j < k
                · obtain ⟨hf, rr, h2⟩ := HI.out.row
                  have hrem := rem_nat j k
                  have htk : (j + 1) % k < k := Nat.mod_lt _ (by omega)
                  obtain ⟨t, ht⟩ : ∃ t, (j + 1) % k = t := ⟨_, rfl⟩
                  have hre : RealP R R 0 ⟨1, (cN : Int), (t : Int)⟩ := by rw [← ht]; exact rnd_real hcc hkR _ htk
                  have hfe : hf (20 * cN + t) = 20 * (cN : Int) + (j : Int) := by
                    have h := h2 ⟨1, (cN : Int), (t : Int)⟩ hre.may
                    rw [HONE.out.2.2.val _ hre] at h
                    have hm : rndM (cN : Int) k j ∈ mvF (rndM (cN : Int) k) k := mvF_mem.2 ⟨j, hlt3, rfl⟩
                    have hs := srcOf_mem (rnd_nd (cN : Int) k) hm
                    have hd : (rndM (cN : Int) k j).dst = ⟨1, (cN : Int), (t : Int)⟩ := by unfold rndM; rw [ht]
                    rw [hd] at hs
                    rw [hs] at h
                    have e1 : (cellK ⟨1, (cN : Int), (t : Int)⟩).toNat = 20 * cN + t := by
                      unfold cellK
                      simp only
                      rw [if_neg (by omega)]
                      omega
                    have e2 : cellK (rndM (cN : Int) k j).src = 20 * (cN : Int) + (j : Int) := by
                      unfold cellK rndM
                      simp only
                      rw [if_neg (by omega)]
                    rw [e1, e2] at h
                    exact h
                  rw [ht] at hrem htk
                  have ro := rr.cell (i := 20 * cN + t) (by omega)
                  simp only [hfe] at ro
                  have x1 : IntKind.i64.wrap (20 * (cN : Int)) = 20 * (cN : Int) := by rw [IntKind.wrap_i64]; omega
                  have x2 : IntKind.i64.wrap (20 * (cN : Int) + (t : Int)) = ((20 * cN + t : Nat) : Int) := by rw [IntKind.wrap_i64]; omega
                  have x3 : IntKind.i64.wrap (20 * (cN : Int) + (j : Int)) = 20 * (cN : Int) + (j : Int) := by rw [IntKind.wrap_i64]; omega
                  have x4 : ((20 * cN + t : Nat) : Int) < 200 := by omega
                  have HI2 : Hid (CellI W9 G R R 0 (runMvs id done) wr) := HI
                  clear HI h2 rr ht hre hfe
                  --CUT8
                  go_wp2
                  --CUT9
                  exact ⟨⟨j + 1, by omega, by simp, HI2⟩, by simp [intOf]; omega⟩
                · have HFB : Hid (Below w.heap.size w wr) := HB6.out.trans ((HB9.out.trans (HI.out.kq.below (B := w6.heap.size) HB9.out.size (Nat.le_of_eq HGG.out) (Nat.le_of_eq HGG.out) (Nat.le_of_eq HGG.out) (fun g hg => by cases hg))).mono HB6.out.size)
                  clear HI
                  --CUTa
                  go_wp2
                  --CUTb
                  go_ret
                  exact ⟨by simp, HFB.out⟩
end Go.Proofs.Ytdlglinbjkaokaa
