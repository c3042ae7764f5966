/-
  The walk of OrderNone.
-/
import Derived.Test.YtdlglinbjkaokaaOrFanW
namespace Go.Proofs.Ytdlglinbjkaokaa
open Go.RowKit
set_option linter.unusedVariables false

def selfM (j : Nat) : Mv := ⟨⟨1, 0, (j : Int)⟩, ⟨1, 0, (j : Int)⟩⟩
theorem self_nd (k : Nat) : (dsts (mvF selfM k)).Nodup := mvF_nd fun a b _ _ h => by
  have := congrArg Pl.n h
  unfold selfM at this
  simp only at this
  omega
theorem self_src (k : Nat) (q : Pl) : srcOf (mvF selfM k) q = q := by
  by_cases h : ∃ i, i < k ∧ (selfM i).dst = q
  · obtain ⟨i, hi, rfl⟩ := h
    exact srcOf_mem (self_nd k) (m := selfM i) (mvF_mem.2 ⟨i, hi, rfl⟩)
  · refine srcOf_not fun m hm e => h ?_
    obtain ⟨i, hi, rfl⟩ := mvF_mem.1 hm
    exact ⟨i, hi, e⟩
theorem two_some {R : Nat} {done : List Mv} (hR : 2 ≤ R) (h : RightO (R : Int) (R : Int) 0 [⟨⟨1, 0, 0⟩, ⟨1, 0, 1⟩⟩] done) : 0 < done.length := by
  refine Nat.pos_of_ne_zero fun e => ?_
  have e0 : done = [] := List.length_eq_zero_iff.1 e
  subst e0
  have h1 := h.val ⟨1, 0, 1⟩ (reg_real (by omega) (by omega))
  rw [srcOf_mem (l := [⟨⟨1, 0, 0⟩, ⟨1, 0, 1⟩⟩]) (by simp [dsts]) (m := ⟨⟨1, 0, 0⟩, ⟨1, 0, 1⟩⟩) (by simp)] at h1
  have b := congrArg Pl.n h1
  simp [runMvs] at b
theorem sl_mv1 {w : World} {b : Nat} (a0 a1 a2 a3 a4 a5 : Int) (h : ∀ i, w.cell? ⟨b, i, none⟩ = (#[.int .i64 a0, .int .i64 a1, .int .i64 a2, .int .i64 a3, .int .i64 a4, .int .i64 a5] : Array Value)[i]?) : SlOf w 6 RMv (.slice (some ⟨b, 0, none⟩) 1 1) [⟨⟨a0, a1, a2⟩, ⟨a3, a4, a5⟩⟩] := by
  refine SlOf_one (b := b) (off := 0) (cap := 1) [.int .i64 a0, .int .i64 a1, .int .i64 a2, .int .i64 a3, .int .i64 a4, .int .i64 a5] rfl rfl (fun j hj => ?_)
  rw [Nat.zero_add, h j]
  have : j = 0 ∨ j = 1 ∨ j = 2 ∨ j = 3 ∨ j = 4 ∨ j = 5 := by simp at hj; omega
  rcases this with rfl | rfl | rfl | rfl | rfl | rfl <;> rfl
theorem sl_i1 {w : World} {b : Nat} (x : Int) (h : ∀ i, w.cell? ⟨b, i, none⟩ = (#[.int .i64 x] : Array Value)[i]?) : SlOf w 1 RInt (.slice (some ⟨b, 0, none⟩) 1 1) [x] := by
  refine SlOf_one (b := b) (off := 0) (cap := 1) [.int .i64 x] rfl rfl (fun j hj => ?_)
  rw [Nat.zero_add, h j]
  have : j = 0 := by simp at hj; omega
  subst this
  rfl
/-- Below a row that was made. -/
theorem row_keep {w w' w'' : World} (vs : Array Value) (t : TypeId) (hw : w' = w.alloc (.cells vs t)) (hb : Below w'.heap.size w' w'') (i : Nat) : w''.cell? ⟨w.heap.size, i, none⟩ = vs[i]? := by
  rw [hb.cell (p := ⟨w.heap.size, i, none⟩) (by rw [hw]; simp), hw]
  exact topO w vs t i
set_option maxRecDepth 8000 in
set_option maxHeartbeats 32000000 in
theorem orderNone_walk (a : Int) (wa : (Lit.int .i64 a).wf = true) (n : Int) (wn : (Lit.int .i64 n).wf = true) (w : World) :
    Calls Try.prog 7 #[.int .i64 a, .int .i64 n] w fun e w' => e = .returned (.bool true) ∧ Below w.heap.size w w' := by
  have bds : ∀ x : Int, (Lit.int .i64 x).wf = true → -9223372036854775808 ≤ x ∧ x ≤ 9223372036854775807 := fun x hx => by
    simp only [Lit.wf, IntKind.min, IntKind.max, IntKind.signed, IntKind.bits, Bool.and_eq_true, decide_eq_true_eq, if_true] at hx
    exact ⟨by omega, by omega⟩
  obtain ⟨a1, a2⟩ := bds a wa
  obtain ⟨n1, n2⟩ := bds n wn
  obtain ⟨p0, p1⟩ := pickedOf_bd a 9 (by omega)
  obtain ⟨RN, hR⟩ : ∃ RN : Nat, 2 + pickedOf a 9 = (RN : Int) := ⟨(2 + pickedOf a 9).toNat, by omega⟩
  have hR1 : 2 ≤ RN := by omega
  have hR2 : RN ≤ 10 := by omega
  obtain ⟨k, hk⟩ : ∃ k : Nat, pickedOf n ((RN : Int) + 1) = (k : Int) := ⟨(pickedOf n ((RN : Int) + 1)).toNat, by have := pickedOf_bd n ((RN : Int) + 1) (by omega); omega⟩
  have hkR : k ≤ RN := by have := pickedOf_bd n ((RN : Int) + 1) (by omega); omega
  have HMA := machine_any a a w a1 a2 a1 a2
  rw [hR] at HMA
  have HPN := fun W' => picked_is n ((RN : Int) + 1) (k : Int) W' hk n1 n2 (by omega) (by omega)
  have hw1 : IntKind.i64.wrap ((RN : Int) + 1) = (RN : Int) + 1 := by rw [IntKind.wrap_i64]; omega
  have HOE : Hid (ordE (RN : Int) (RN : Int) 0 (mvF selfM k) (List.replicate k 0) = 0) := by
    have h := ordE_rep (R := (RN : Int)) (fr := 0) (l := mvF selfM k) (c := 0) (by omega) (by omega) (by omega) (by rw [mvF_len]; omega) (fun m hm => by
      obtain ⟨i, hi, rfl⟩ := mvF_mem.1 hm
      exact chk_zero (reg_real (by omega) (by omega)) (reg_real (by omega) (by omega)) rfl rfl) (self_nd k)
    rw [mvF_len] at h
    exact h
  have HOE2 : Hid (ordE (RN : Int) (RN : Int) 0 [⟨⟨1, 0, 0⟩, ⟨1, 0, 1⟩⟩] [0] = 0) := ordE_rep (R := (RN : Int)) (fr := 0) (l := [⟨⟨1, 0, 0⟩, ⟨1, 0, 1⟩⟩]) (c := 0) (by omega) (by omega) (by omega) (by simp) (fun m hm => by
    rw [List.mem_singleton.1 hm]
    exact chk_zero (reg_real (by omega) (by omega)) (reg_real (by omega) (by omega)) rfl rfl) (by simp [dsts])
  clear hR hk p0 p1
  go_enter Try.func7, Try.ntmps7
  --CUT1
  go_wp2_with fail
  refine HMA.mono ?_
  clear HMA
  rintro e w1 ⟨rfl, hb1⟩
  obtain ⟨M, hM⟩ : ∃ M, w1.heap.size = M := ⟨_, rfl⟩
  obtain ⟨W, hW⟩ : ∃ W, W = w1.alloc (.cells #[.int .i64 (RN : Int), .int .i64 (RN : Int)] 24) := ⟨_, rfl⟩
  have hbW : Below w1.heap.size w1 W := by rw [hW]; exact (Below.refl _ _).alloc (Nat.le_refl _) _
  have tW := topO w1 #[.int .i64 (RN : Int), .int .i64 (RN : Int)] 24
  rw [← hW, hM] at tW
  have zM : M < W.heap.size := by rw [hW, ← hM]; simp
  have m0 : W.cell? ⟨M, 0, none⟩ = some (.int .i64 (RN : Int)) := tW 0
  have m1 : W.cell? ⟨M, 1, none⟩ = some (.int .i64 (RN : Int)) := tW 1
  have HW : Hid (W = w1.alloc (.cells #[.int .i64 (RN : Int), .int .i64 (RN : Int)] 24)) := hW
  have HM : Hid (w1.heap.size = M) := hM
  have HBW : Hid (Below w.heap.size w W) := hb1.trans (hbW.mono hb1.size)
  clear hM hW hbW tW hb1
  go_upto_region 5 with fail
  rw [← HW.out, HM.out]
  have HGT0 : Hid (GrT W W.heap.size (.slice none 0 0) (.slice none 0 0) (mvF selfM 0) (List.replicate 0 0) W) := GrT.nil W
  --CUT2
  go_loopw [8, 6, 7] (fun i sx v wr => ∃ (j : Nat) (a6 : Option Addr) (c6 : Nat) (a7 : Option Addr) (c7 : Nat), j ≤ k ∧ i = .int .i64 j ∧ sx = .slice a6 j c6 ∧ v = .slice a7 j c7 ∧ Hid (GrT W W.heap.size (.slice a6 j c6) (.slice a7 j c7) (mvF selfM j) (List.replicate j 0) wr)) (fun i _ _ _ => k - (intOf i).toNat)
  case atStart => exact ⟨0, none, 0, none, 0, Nat.zero_le _, rfl, rfl, rfl, HGT0⟩
  case round =>
    clear HGT0
    obtain ⟨j, a6, c6, a7, c7, hj, rfl, rfl, rfl, HI⟩ := hrel
    have n0 := (HI.out.low.cell (p := ⟨M, 0, none⟩) zM).trans m0
    by_cases hlt : j < k
    · go_wp2_with fail
      (go_at_call 15; refine (HPN _).mono ?_; rintro e w' ⟨rfl, hw'⟩; rw [hw']; clear hw' w')
      go_wp2_with fail
      go_at_call 20
      refine (reg_place (j : Int) _).mono ?_
      rintro e w2 ⟨rfl, hb2⟩
      go_wp2_with fail
      go_at_call 20
      refine (reg_place (j : Int) _).mono ?_
      rintro e w3 ⟨rfl, hb3⟩
      have HI := HI.out.below (hb2.trans (hb3.mono hb2.size))
      clear hb2 hb3
      have ho6 := HI.o6
      rw [mvF_len] at ho6
      obtain ⟨g6, cap6, w4, hr6, o6, hg6, at6⟩ := app_moves ho6 HI.le [selfM j] #[.int .i64 1, .int .i64 0, .int .i64 (j : Int), .int .i64 1, .int .i64 0, .int .i64 (j : Int)] rfl 1 rfl (by omega) (by omega) 1 25
      have k3 := HI.push6 (m := selfM j) (by rw [mvF_len]; exact o6) hg6 at6
      rw [mvF_len] at k3
      have ho7 := k3.o7
      rw [List.length_replicate] at ho7
      obtain ⟨g7, cap7, w5, hr7, o7, hg7, at7⟩ := app_int ho7 k3.le 0 (by omega) 26
      have k4 := k3.push7 (x := 0) (by rw [List.length_replicate]; exact o7) hg7 at7
      rw [List.length_replicate] at k4
      have HE : Hid (GrT W W.heap.size (.slice (some ⟨g6, 0, none⟩) (j + 1) cap6) (.slice (some ⟨g7, 0, none⟩) (j + 1) cap7) (mvF selfM (j + 1)) (List.replicate (j + 1) 0) w5) := by
        show GrT _ _ _ _ _ _ _
        rw [mvF_succ, rep_succ]
        exact k4
      clear HI ho6 o6 hg6 at6 k3 ho7 o7 hg7 at7 k4
      --CUT6
      go_wp2_with (first | (at_builtin; refine wpL_append rfl _ _ _ rfl rfl rfl hr6 ?_) | (at_builtin; refine wpL_append rfl _ _ _ rfl rfl rfl hr7 ?_))
      --CUT7
      exact ⟨⟨j + 1, _, _, _, _, by omega, by simp, rfl, rfl, HE⟩, by simp [intOf]; omega⟩
    · have hjn : k = j := by omega
      subst hjn
      obtain ⟨sl1, sl2⟩ := HI.out.sl (by rw [mvF_len]; unfold longest; omega) (by rw [List.length_replicate]; unfold longest; omega)
      have HO := order_any (RN : Int) (RN : Int) 0 _ _ _ _ wr sl1 sl2 (fun m hm => by
        obtain ⟨i, hi, rfl⟩ := mvF_mem.1 hm
        refine ⟨⟨?_, ?_, ?_⟩, ⟨?_, ?_, ?_⟩⟩ <;> (unfold selfM I64) <;> simp only <;> constructor <;> omega)
      rw [HOE.out] at HO
      have n1' := (HI.out.low.cell (p := ⟨M, 1, none⟩) zM).trans m1
      have hMr : M < wr.heap.size := Nat.lt_of_lt_of_le zM HI.out.le
      have HBr : Hid (Below w.heap.size w wr) := HBW.out.trans (HI.out.low.mono HBW.out.size)
      clear HI sl1 sl2 m0 m1
      go_upto_region 9 with (go_at_call 15; refine (HPN _).mono ?_; rintro e w' ⟨rfl, hw'⟩; rw [hw']; clear hw' w')
      --CUT11
      go_upto_region 10 with (go_at_call 10; refine HO.mono ?_; clear HO; rintro e w6 ⟨hb6, v6, rfl, -, hv6⟩)
      --CUT12
      obtain ⟨done, hsl, hrt⟩ := hv6 trivial
      obtain ⟨ao, co, rfl, -⟩ := hsl.out
      obtain ⟨no, hno⟩ : ∃ no, done.length = no := ⟨_, rfl⟩
      rw [hno] at hsl ⊢
      have HONE0 : Hid (SlOf w6 6 RMv (.slice ao no co) done ∧ done.length = no ∧ RightO (RN : Int) (RN : Int) 0 (mvF selfM k) done) := ⟨hsl, hno, hrt⟩
      have HRB : Hid ((RN : Int) ≤ 10 ∧ (RN : Int) ≤ 10 ∧ (0 : Int) ≤ 50) := ⟨by omega, by omega, by omega⟩
      have hno2 : no ≤ 1000000 := by have := hrt.len; rw [mvF_len] at this; omega
      have hM6 : M < w6.heap.size := Nat.lt_of_lt_of_le hMr hb6.size
      have HMC : Hid (w6.cell? ⟨M, 0, none⟩ = some (.int .i64 (RN : Int)) ∧ w6.cell? ⟨M, 1, none⟩ = some (.int .i64 (RN : Int))) := ⟨(hb6.cell (p := ⟨M, 0, none⟩) hMr).trans n0, (hb6.cell (p := ⟨M, 1, none⟩) hMr).trans n1'⟩
      have HB6 : Hid (Below w.heap.size w w6) := HBr.out.trans (hb6.mono HBr.out.size)
      clear hv6 hsl hno hrt hb6 n0 n1' HBr HOE hMr zM
      --CUT13
      have HS : Hid (∀ w', Below w6.heap.size w6 w' → (fun w' => w'.cell? ⟨M, 0, none⟩ = some (.int .i64 (RN : Int)) ∧ w'.cell? ⟨M, 1, none⟩ = some (.int .i64 (RN : Int))) w') := fun w' hh => ⟨(hh.cell (p := ⟨M, 0, none⟩) hM6).trans HMC.out.1, (hh.cell (p := ⟨M, 1, none⟩) hM6).trans HMC.out.2⟩
      have HFIN : Hid (∀ (w' : World) (A B : Nat), Below w6.heap.size w6 w' → (∀ i, w'.cell? ⟨A, i, none⟩ = (#[.int .i64 1, .int .i64 0, .int .i64 0, .int .i64 1, .int .i64 0, .int .i64 1] : Array Value)[i]?) → (∀ i, w'.cell? ⟨B, i, none⟩ = (#[.int .i64 0] : Array Value)[i]?) → Calls Try.prog 10 #[.agg #[.int .i64 (RN : Int), .int .i64 (RN : Int)], .slice (some ⟨A, 0, none⟩) 1 1, .slice (some ⟨B, 0, none⟩) 1 1, .int .i64 0] w' fun e w'' => ∃ ad nd cd, e = .returned (.tuple #[.slice ad nd cd, .int .i64 0]) ∧ 0 < nd ∧ Below w6.heap.size w6 w'') := fun w' A B hh ha hb => by
        refine (order_any (RN : Int) (RN : Int) 0 _ _ _ _ w' (sl_mv1 1 0 0 1 0 1 ha) (sl_i1 0 hb) (fun m hm => by
          rw [List.mem_singleton.1 hm]
          refine ⟨⟨?_, ?_, ?_⟩, ⟨?_, ?_, ?_⟩⟩ <;> (unfold I64) <;> simp only <;> constructor <;> omega)).mono ?_
        rw [HOE2.out]
        rintro e w'' ⟨hbb, v, rfl, -, hv⟩
        obtain ⟨d2, hs2, hr2⟩ := hv rfl
        obtain ⟨ad, cd, rfl, -⟩ := hs2.out
        exact ⟨ad, d2.length, cd, rfl, two_some hR1 hr2, hh.trans (hbb.mono hh.size)⟩
      have hd6 : Below w6.heap.size w6 w6.drew := (Below.refl _ _).drew
      clear HOE2
      go_cut [11, 12] (fun x y wz => ∃ ad nd cd, x = .slice ad nd cd ∧ y = .int .i64 0 ∧ 0 < nd ∧ Below w6.heap.size w6 wz)
      case first =>
        refine wp_region_X (fun w' => w'.cell? ⟨M, 0, none⟩ = some (.int .i64 (RN : Int)) ∧ w'.cell? ⟨M, 1, none⟩ = some (.int .i64 (RN : Int))) 99 (by kernel_rfl) (HS.out _ hd6) (fun hHeld => ?_)
        generalize w6.drew = ud at hd6 hHeld ⊢
        refine wpXt (v := ?_) 0 rfl (by kernel_rfl) (fun _ _ _ h => h) (by rfl) ?_ hHeld ?_
        rotate_left
        · intro w' hSw
          go_simp <;> with_reducible rfl
        try simp only [Act.put, List.setIfInBounds_toArray, List.set_cons_zero, List.set_cons_succ]
        refine wpAnyX_both (i := 1) (k := 5) rfl rfl (by kernel_rfl) (fun K hK => ?_) (fun K hK => ?_)
        · go_simp
          refine (reg_place 0 _).mono ?_
          rintro e u1 ⟨rfl, hx1⟩
          have hd1 : Below w6.heap.size w6 u1 := hd6.trans (hx1.mono hd6.size)
          refine hK.out _ _ (HS.out _ hd1) (fun hHeld => ?_)
          clear hK K
          try simp only [Act.put, List.setIfInBounds_toArray, List.set_cons_zero, List.set_cons_succ]
          refine wpAnyX_both (i := 2) (k := 5) rfl rfl (by kernel_rfl) (fun K hK => ?_) (fun K hK => ?_)
          · go_simp
            refine (reg_place 1 _).mono ?_
            rintro e u3 ⟨rfl, hx3⟩
            have hd3 : Below w6.heap.size w6 u3 := hd1.trans (hx3.mono hd1.size)
            refine hK.out _ _ (HS.out _ hd3) (fun hHeld => ?_)
            clear hK K
            try simp only [Act.put, List.setIfInBounds_toArray, List.set_cons_zero, List.set_cons_succ]
            refine wpXt (v := ?_) 3 rfl (by kernel_rfl) (fun _ _ _ h => h) (by rfl) ?_ hHeld ?_
            rotate_left
            · intro w' hSw
              go_simp <;> with_reducible rfl
            try simp only [Act.put, List.setIfInBounds_toArray, List.set_cons_zero, List.set_cons_succ]
            refine wpAnyX_both (i := 4) (k := 5) rfl rfl (by kernel_rfl) (fun K hK => ?_) (fun K hK => ?_)
            · go_simp
              obtain ⟨u5, hu5⟩ : ∃ u5, u5 = World.alloc u3 (.cells #[.int .i64 1, .int .i64 0, .int .i64 0, .int .i64 1, .int .i64 0, .int .i64 1] 36) := ⟨_, rfl⟩
              have hx5 : Below (World.heap u3).size u3 u5 := by rw [hu5]; exact (Below.refl _ _).alloc (Nat.le_refl _) _
              have hd5 : Below w6.heap.size w6 u5 := hd3.trans (hx5.mono hd3.size)
              rw [← hu5]
              have Hu5 : Hid (u5 = World.alloc u3 (.cells #[.int .i64 1, .int .i64 0, .int .i64 0, .int .i64 1, .int .i64 0, .int .i64 1] 36)) := hu5
              clear hu5
              refine hK.out _ _ (HS.out _ hd5) (fun hHeld => ?_)
              clear hK K
              try simp only [Act.put, List.setIfInBounds_toArray, List.set_cons_zero, List.set_cons_succ]
              refine wpXs 5 rfl (by kernel_rfl) (fun K hK => ?_)
              go_simp
              obtain ⟨u7, hu7⟩ : ∃ u7, u7 = World.alloc u5 (.cells #[.int .i64 0] 3) := ⟨_, rfl⟩
              have hx7 : Below (World.heap u5).size u5 u7 := by rw [hu7]; exact (Below.refl _ _).alloc (Nat.le_refl _) _
              have hd7 : Below w6.heap.size w6 u7 := hd5.trans (hx7.mono hd5.size)
              rw [← hu7]
              have Hu7 : Hid (u7 = World.alloc u5 (.cells #[.int .i64 0] 3)) := hu7
              clear hu7
              refine hK.out _ _ (HS.out _ hd7) (fun hHeld => ?_)
              clear hK K
              try simp only [Act.put, List.setIfInBounds_toArray, List.set_cons_zero, List.set_cons_succ]
              refine wpXs 6 rfl (by kernel_rfl) (fun K hK => ?_)
              go_simp
              refine (HFIN.out _ _ _ hd7 (row_keep _ _ Hu5.out (hx7)) (row_keep _ _ Hu7.out ((Below.refl _ _)))).mono ?_
              rintro e uz ⟨ad, nd, cd, rfl, hnd, hbz⟩
              refine hK.out _ _ (HS.out _ hbz) (fun hHeld => ?_)
              clear hK K
              try simp only [Act.put, List.setIfInBounds_toArray, List.set_cons_zero, List.set_cons_succ]
              refine wpXt (v := ?_) 7 rfl (by kernel_rfl) (fun _ _ _ h => h) (by rfl) ?_ hHeld ?_
              rotate_left
              · intro w' hSw
                go_simp <;> with_reducible rfl
              try simp only [Act.put, List.setIfInBounds_toArray, List.set_cons_zero, List.set_cons_succ]
              refine wpXt (v := ?_) 8 rfl (by kernel_rfl) (fun _ _ _ h => h) (by rfl) ?_ hHeld ?_
              rotate_left
              · intro w' hSw
                go_simp <;> with_reducible rfl
              try simp only [Act.put, List.setIfInBounds_toArray, List.set_cons_zero, List.set_cons_succ]
              refine wpXt (v := ?_) 9 rfl (by kernel_rfl) (fun _ _ _ h => h) (by rfl) ?_ hHeld ?_
              rotate_left
              · intro w' hSw
                go_simp <;> with_reducible rfl
              try simp only [Act.put, List.setIfInBounds_toArray, List.set_cons_zero, List.set_cons_succ]
              refine wpXs 10 rfl (by kernel_rfl) (fun K hK => ?_)
              go_simp
              refine hK.out _ _ (HS.out _ hbz) (fun hHeld => ?_)
              clear hK K
              try simp only [Act.put, List.setIfInBounds_toArray, List.set_cons_zero, List.set_cons_succ]
              refine wpXs 11 rfl (by kernel_rfl) (fun K hK => ?_)
              go_simp
              refine hK.out _ _ (HS.out _ hbz) (fun hHeld => ?_)
              clear hK K
              try simp only [Act.put, List.setIfInBounds_toArray, List.set_cons_zero, List.set_cons_succ]
              refine wpAnyX_done (by kernel_rfl) ?_ _
              go_wp2
              go_meet
              exact ⟨ad, nd, cd, rfl, rfl, hnd, hbz⟩
            · go_simp
              obtain ⟨u6, hu6⟩ : ∃ u6, u6 = World.alloc u3 (.cells #[.int .i64 0] 3) := ⟨_, rfl⟩
              have hx6 : Below (World.heap u3).size u3 u6 := by rw [hu6]; exact (Below.refl _ _).alloc (Nat.le_refl _) _
              have hd6 : Below w6.heap.size w6 u6 := hd3.trans (hx6.mono hd3.size)
              rw [← hu6]
              have Hu6 : Hid (u6 = World.alloc u3 (.cells #[.int .i64 0] 3)) := hu6
              clear hu6
              refine hK.out _ _ (HS.out _ hd6) (fun hHeld => ?_)
              clear hK K
              try simp only [Act.put, List.setIfInBounds_toArray, List.set_cons_zero, List.set_cons_succ]
              refine wpXs 4 rfl (by kernel_rfl) (fun K hK => ?_)
              go_simp
              obtain ⟨u8, hu8⟩ : ∃ u8, u8 = World.alloc u6 (.cells #[.int .i64 1, .int .i64 0, .int .i64 0, .int .i64 1, .int .i64 0, .int .i64 1] 36) := ⟨_, rfl⟩
              have hx8 : Below (World.heap u6).size u6 u8 := by rw [hu8]; exact (Below.refl _ _).alloc (Nat.le_refl _) _
              have hd8 : Below w6.heap.size w6 u8 := hd6.trans (hx8.mono hd6.size)
              rw [← hu8]
              have Hu8 : Hid (u8 = World.alloc u6 (.cells #[.int .i64 1, .int .i64 0, .int .i64 0, .int .i64 1, .int .i64 0, .int .i64 1] 36)) := hu8
              clear hu8
              refine hK.out _ _ (HS.out _ hd8) (fun hHeld => ?_)
              clear hK K
              try simp only [Act.put, List.setIfInBounds_toArray, List.set_cons_zero, List.set_cons_succ]
              refine wpXs 6 rfl (by kernel_rfl) (fun K hK => ?_)
              go_simp
              refine (HFIN.out _ _ _ hd8 (row_keep _ _ Hu8.out ((Below.refl _ _))) (row_keep _ _ Hu6.out (hx8))).mono ?_
              rintro e uz ⟨ad, nd, cd, rfl, hnd, hbz⟩
              refine hK.out _ _ (HS.out _ hbz) (fun hHeld => ?_)
              clear hK K
              try simp only [Act.put, List.setIfInBounds_toArray, List.set_cons_zero, List.set_cons_succ]
              refine wpXt (v := ?_) 7 rfl (by kernel_rfl) (fun _ _ _ h => h) (by rfl) ?_ hHeld ?_
              rotate_left
              · intro w' hSw
                go_simp <;> with_reducible rfl
              try simp only [Act.put, List.setIfInBounds_toArray, List.set_cons_zero, List.set_cons_succ]
              refine wpXt (v := ?_) 8 rfl (by kernel_rfl) (fun _ _ _ h => h) (by rfl) ?_ hHeld ?_
              rotate_left
              · intro w' hSw
                go_simp <;> with_reducible rfl
              try simp only [Act.put, List.setIfInBounds_toArray, List.set_cons_zero, List.set_cons_succ]
              refine wpXt (v := ?_) 9 rfl (by kernel_rfl) (fun _ _ _ h => h) (by rfl) ?_ hHeld ?_
              rotate_left
              · intro w' hSw
                go_simp <;> with_reducible rfl
              try simp only [Act.put, List.setIfInBounds_toArray, List.set_cons_zero, List.set_cons_succ]
              refine wpXs 10 rfl (by kernel_rfl) (fun K hK => ?_)
              go_simp
              refine hK.out _ _ (HS.out _ hbz) (fun hHeld => ?_)
              clear hK K
              try simp only [Act.put, List.setIfInBounds_toArray, List.set_cons_zero, List.set_cons_succ]
              refine wpXs 11 rfl (by kernel_rfl) (fun K hK => ?_)
              go_simp
              refine hK.out _ _ (HS.out _ hbz) (fun hHeld => ?_)
              clear hK K
              try simp only [Act.put, List.setIfInBounds_toArray, List.set_cons_zero, List.set_cons_succ]
              refine wpAnyX_done (by kernel_rfl) ?_ _
              go_wp2
              go_meet
              exact ⟨ad, nd, cd, rfl, rfl, hnd, hbz⟩
          · go_simp
            obtain ⟨u4, hu4⟩ : ∃ u4, u4 = World.alloc u1 (.cells #[.int .i64 0] 3) := ⟨_, rfl⟩
            have hx4 : Below (World.heap u1).size u1 u4 := by rw [hu4]; exact (Below.refl _ _).alloc (Nat.le_refl _) _
            have hd4 : Below w6.heap.size w6 u4 := hd1.trans (hx4.mono hd1.size)
            rw [← hu4]
            have Hu4 : Hid (u4 = World.alloc u1 (.cells #[.int .i64 0] 3)) := hu4
            clear hu4
            refine hK.out _ _ (HS.out _ hd4) (fun hHeld => ?_)
            clear hK K
            try simp only [Act.put, List.setIfInBounds_toArray, List.set_cons_zero, List.set_cons_succ]
            refine wpXs 2 rfl (by kernel_rfl) (fun K hK => ?_)
            go_simp
            refine (reg_place 1 _).mono ?_
            rintro e u9 ⟨rfl, hx9⟩
            have hd9 : Below w6.heap.size w6 u9 := hd4.trans (hx9.mono hd4.size)
            refine hK.out _ _ (HS.out _ hd9) (fun hHeld => ?_)
            clear hK K
            try simp only [Act.put, List.setIfInBounds_toArray, List.set_cons_zero, List.set_cons_succ]
            refine wpXt (v := ?_) 3 rfl (by kernel_rfl) (fun _ _ _ h => h) (by rfl) ?_ hHeld ?_
            rotate_left
            · intro w' hSw
              go_simp <;> with_reducible rfl
            try simp only [Act.put, List.setIfInBounds_toArray, List.set_cons_zero, List.set_cons_succ]
            refine wpXs 4 rfl (by kernel_rfl) (fun K hK => ?_)
            go_simp
            obtain ⟨u10, hu10⟩ : ∃ u10, u10 = World.alloc u9 (.cells #[.int .i64 1, .int .i64 0, .int .i64 0, .int .i64 1, .int .i64 0, .int .i64 1] 36) := ⟨_, rfl⟩
            have hx10 : Below (World.heap u9).size u9 u10 := by rw [hu10]; exact (Below.refl _ _).alloc (Nat.le_refl _) _
            have hd10 : Below w6.heap.size w6 u10 := hd9.trans (hx10.mono hd9.size)
            rw [← hu10]
            have Hu10 : Hid (u10 = World.alloc u9 (.cells #[.int .i64 1, .int .i64 0, .int .i64 0, .int .i64 1, .int .i64 0, .int .i64 1] 36)) := hu10
            clear hu10
            refine hK.out _ _ (HS.out _ hd10) (fun hHeld => ?_)
            clear hK K
            try simp only [Act.put, List.setIfInBounds_toArray, List.set_cons_zero, List.set_cons_succ]
            refine wpXs 6 rfl (by kernel_rfl) (fun K hK => ?_)
            go_simp
            refine (HFIN.out _ _ _ hd10 (row_keep _ _ Hu10.out ((Below.refl _ _))) (row_keep _ _ Hu4.out ((hx9).trans ((hx10).mono (hx9).size)))).mono ?_
            rintro e uz ⟨ad, nd, cd, rfl, hnd, hbz⟩
            refine hK.out _ _ (HS.out _ hbz) (fun hHeld => ?_)
            clear hK K
            try simp only [Act.put, List.setIfInBounds_toArray, List.set_cons_zero, List.set_cons_succ]
            refine wpXt (v := ?_) 7 rfl (by kernel_rfl) (fun _ _ _ h => h) (by rfl) ?_ hHeld ?_
            rotate_left
            · intro w' hSw
              go_simp <;> with_reducible rfl
            try simp only [Act.put, List.setIfInBounds_toArray, List.set_cons_zero, List.set_cons_succ]
            refine wpXt (v := ?_) 8 rfl (by kernel_rfl) (fun _ _ _ h => h) (by rfl) ?_ hHeld ?_
            rotate_left
            · intro w' hSw
              go_simp <;> with_reducible rfl
            try simp only [Act.put, List.setIfInBounds_toArray, List.set_cons_zero, List.set_cons_succ]
            refine wpXt (v := ?_) 9 rfl (by kernel_rfl) (fun _ _ _ h => h) (by rfl) ?_ hHeld ?_
            rotate_left
            · intro w' hSw
              go_simp <;> with_reducible rfl
            try simp only [Act.put, List.setIfInBounds_toArray, List.set_cons_zero, List.set_cons_succ]
            refine wpXs 10 rfl (by kernel_rfl) (fun K hK => ?_)
            go_simp
            refine hK.out _ _ (HS.out _ hbz) (fun hHeld => ?_)
            clear hK K
            try simp only [Act.put, List.setIfInBounds_toArray, List.set_cons_zero, List.set_cons_succ]
            refine wpXs 11 rfl (by kernel_rfl) (fun K hK => ?_)
            go_simp
            refine hK.out _ _ (HS.out _ hbz) (fun hHeld => ?_)
            clear hK K
            try simp only [Act.put, List.setIfInBounds_toArray, List.set_cons_zero, List.set_cons_succ]
            refine wpAnyX_done (by kernel_rfl) ?_ _
            go_wp2
            go_meet
            exact ⟨ad, nd, cd, rfl, rfl, hnd, hbz⟩
        · go_simp
          obtain ⟨u2, hu2⟩ : ∃ u2, u2 = World.alloc ud (.cells #[.int .i64 0] 3) := ⟨_, rfl⟩
          have hx2 : Below (World.heap ud).size ud u2 := by rw [hu2]; exact (Below.refl _ _).alloc (Nat.le_refl _) _
          have hd2 : Below w6.heap.size w6 u2 := hd6.trans (hx2.mono hd6.size)
          rw [← hu2]
          have Hu2 : Hid (u2 = World.alloc ud (.cells #[.int .i64 0] 3)) := hu2
          clear hu2
          refine hK.out _ _ (HS.out _ hd2) (fun hHeld => ?_)
          clear hK K
          try simp only [Act.put, List.setIfInBounds_toArray, List.set_cons_zero, List.set_cons_succ]
          refine wpXs 1 rfl (by kernel_rfl) (fun K hK => ?_)
          go_simp
          refine (reg_place 0 _).mono ?_
          rintro e u11 ⟨rfl, hx11⟩
          have hd11 : Below w6.heap.size w6 u11 := hd2.trans (hx11.mono hd2.size)
          refine hK.out _ _ (HS.out _ hd11) (fun hHeld => ?_)
          clear hK K
          try simp only [Act.put, List.setIfInBounds_toArray, List.set_cons_zero, List.set_cons_succ]
          refine wpXs 2 rfl (by kernel_rfl) (fun K hK => ?_)
          go_simp
          refine (reg_place 1 _).mono ?_
          rintro e u12 ⟨rfl, hx12⟩
          have hd12 : Below w6.heap.size w6 u12 := hd11.trans (hx12.mono hd11.size)
          refine hK.out _ _ (HS.out _ hd12) (fun hHeld => ?_)
          clear hK K
          try simp only [Act.put, List.setIfInBounds_toArray, List.set_cons_zero, List.set_cons_succ]
          refine wpXt (v := ?_) 3 rfl (by kernel_rfl) (fun _ _ _ h => h) (by rfl) ?_ hHeld ?_
          rotate_left
          · intro w' hSw
            go_simp <;> with_reducible rfl
          try simp only [Act.put, List.setIfInBounds_toArray, List.set_cons_zero, List.set_cons_succ]
          refine wpXs 4 rfl (by kernel_rfl) (fun K hK => ?_)
          go_simp
          obtain ⟨u13, hu13⟩ : ∃ u13, u13 = World.alloc u12 (.cells #[.int .i64 1, .int .i64 0, .int .i64 0, .int .i64 1, .int .i64 0, .int .i64 1] 36) := ⟨_, rfl⟩
          have hx13 : Below (World.heap u12).size u12 u13 := by rw [hu13]; exact (Below.refl _ _).alloc (Nat.le_refl _) _
          have hd13 : Below w6.heap.size w6 u13 := hd12.trans (hx13.mono hd12.size)
          rw [← hu13]
          have Hu13 : Hid (u13 = World.alloc u12 (.cells #[.int .i64 1, .int .i64 0, .int .i64 0, .int .i64 1, .int .i64 0, .int .i64 1] 36)) := hu13
          clear hu13
          refine hK.out _ _ (HS.out _ hd13) (fun hHeld => ?_)
          clear hK K
          try simp only [Act.put, List.setIfInBounds_toArray, List.set_cons_zero, List.set_cons_succ]
          refine wpXs 6 rfl (by kernel_rfl) (fun K hK => ?_)
          go_simp
          refine (HFIN.out _ _ _ hd13 (row_keep _ _ Hu13.out ((Below.refl _ _))) (row_keep _ _ Hu2.out (((hx11).trans ((hx12).mono (hx11).size)).trans ((hx13).mono ((hx11).trans ((hx12).mono (hx11).size)).size)))).mono ?_
          rintro e uz ⟨ad, nd, cd, rfl, hnd, hbz⟩
          refine hK.out _ _ (HS.out _ hbz) (fun hHeld => ?_)
          clear hK K
          try simp only [Act.put, List.setIfInBounds_toArray, List.set_cons_zero, List.set_cons_succ]
          refine wpXt (v := ?_) 7 rfl (by kernel_rfl) (fun _ _ _ h => h) (by rfl) ?_ hHeld ?_
          rotate_left
          · intro w' hSw
            go_simp <;> with_reducible rfl
          try simp only [Act.put, List.setIfInBounds_toArray, List.set_cons_zero, List.set_cons_succ]
          refine wpXt (v := ?_) 8 rfl (by kernel_rfl) (fun _ _ _ h => h) (by rfl) ?_ hHeld ?_
          rotate_left
          · intro w' hSw
            go_simp <;> with_reducible rfl
          try simp only [Act.put, List.setIfInBounds_toArray, List.set_cons_zero, List.set_cons_succ]
          refine wpXt (v := ?_) 9 rfl (by kernel_rfl) (fun _ _ _ h => h) (by rfl) ?_ hHeld ?_
          rotate_left
          · intro w' hSw
            go_simp <;> with_reducible rfl
          try simp only [Act.put, List.setIfInBounds_toArray, List.set_cons_zero, List.set_cons_succ]
          refine wpXs 10 rfl (by kernel_rfl) (fun K hK => ?_)
          go_simp
          refine hK.out _ _ (HS.out _ hbz) (fun hHeld => ?_)
          clear hK K
          try simp only [Act.put, List.setIfInBounds_toArray, List.set_cons_zero, List.set_cons_succ]
          refine wpXs 11 rfl (by kernel_rfl) (fun K hK => ?_)
          go_simp
          refine hK.out _ _ (HS.out _ hbz) (fun hHeld => ?_)
          clear hK K
          try simp only [Act.put, List.setIfInBounds_toArray, List.set_cons_zero, List.set_cons_succ]
          refine wpAnyX_done (by kernel_rfl) ?_ _
          go_wp2
          go_meet
          exact ⟨ad, nd, cd, rfl, rfl, hnd, hbz⟩
      case rest =>
        obtain ⟨ad, nd, cd, rfl, rfl, hnd, hb7⟩ := hcut
        --CUT16
        have HONE : Hid (SlOf wc 6 RMv (.slice ao no co) done ∧ done.length = no ∧ RightO (RN : Int) (RN : Int) 0 (mvF selfM k) done) := ⟨HONE0.out.1.below hb7 fun _ _ h => h, HONE0.out.2⟩
        have hMc : M < wc.heap.size := Nat.lt_of_lt_of_le hM6 hb7.size
        have HMD : Hid (wc.cell? ⟨M, 0, none⟩ = some (.int .i64 (RN : Int))) := (hb7.cell (p := ⟨M, 0, none⟩) hM6).trans HMC.out.1
        have HBC : Hid (Below w.heap.size w wc) := HB6.out.trans (hb7.mono HB6.out.size)
        have hnq : (0 : Int) < (nd : Int) := by omega
        clear HONE0 HMC HS HFIN hd6 hb7 hM6 HB6
        obtain ⟨G, hG⟩ : ∃ G, wc.heap.size = G := ⟨_, rfl⟩
        obtain ⟨W9, hW9⟩ : ∃ W9, W9 = wc.alloc (.cells (madeCells #[.int .i64 0] 200) 3) := ⟨_, rfl⟩
        have hb9 : Below wc.heap.size wc W9 := by rw [hW9]; exact (Below.refl _ _).alloc (Nat.le_refl _) _
        have rG := World.rowIs_made wc (.int .i64 0) 200 3
        rw [← hW9, hG] at rG
        have hmk := run_make_row' (P := Try.prog) 26 3 (.int .i64 0) 8 Try.underlying26 (by kernel_rfl) rfl .i64 .i64 200 (by omega) (by omega)
        simp only [show ((200 : Nat) : Int) = 200 from rfl] at hmk
        have HG0 : Hid (Kq G G G nilV nilV W9 W9 ∧ W9.rowIs G 3 200 (fun i => if i < 0 then .int .i64 (i : Int) else .int .i64 0)) := ⟨Kq.refl _ _ _ _ _, rG.congr fun i hi => by simp⟩
        have HW9 : Hid (W9 = wc.alloc (.cells (madeCells #[.int .i64 0] 200) 3)) := hW9
        have HGG : Hid (wc.heap.size = G) := hG
        have HB9 : Hid (Below wc.heap.size wc W9) := hb9
        clear hG hW9 hb9 rG
        go_upto_region 13 with fail
        rw [← HW9.out, HGG.out]
        --CUTg1
        go_loopw [62] (fun i wr => ∃ j : Nat, j ≤ 200 ∧ i = .int .i64 j ∧ Hid (Kq G G G nilV nilV W9 wr ∧ wr.rowIs G 3 200 (fun i => if i < j then .int .i64 (i : Int) else .int .i64 0))) (fun i _ => 200 - (intOf i).toNat)
        case atStart => exact ⟨0, Nat.zero_le _, rfl, HG0.out⟩
        case round =>
          clear HG0 hmk
          obtain ⟨j, hj, rfl, HI⟩ := hrel
          by_cases hlt : j < 200
          · have r1 := HI.out.2.cell (i := j) hlt
            have r2 := HI.out.2.frozen j
            rw [if_neg (Nat.lt_irrefl j)] at r1
            have HE : Hid (Kq G G G nilV nilV W9 (wr.setCell ⟨G, j, none⟩ (.int .i64 (j : Int))) ∧ (wr.setCell ⟨G, j, none⟩ (.int .i64 (j : Int))).rowIs G 3 200 (fun i => if i < j + 1 then .int .i64 (i : Int) else .int .i64 0)) := by
              have h := HI.out.1
              refine ⟨⟨h.os, h.tape, h.output, by simpa [World.setCell] using h.size, fun q hq n1 n2 n3 n4 => (Below.heap_setCell _ _ _ _ (by show q ≠ G; exact n1)).trans (h.block q hq n1 n2 n3 n4), h.own⟩, (HI.out.2.set j _).congr fun i hi => ?_⟩
              by_cases e : i = j
              · subst e
                simp
              · rw [if_neg e]
                by_cases e2 : i < j
                · rw [if_pos e2, if_pos (by omega)]
                · rw [if_neg e2, if_neg (by omega)]
            clear HI
            go_wp2
            exact ⟨⟨j + 1, by omega, by simp, HE.out⟩, by simp [intOf]; omega⟩
          · have hjn : j = 200 := by omega
            subst hjn
            have HI3 : Hid (CellI W9 G (RN : Int) (RN : Int) 0 (runMvs id (done.take 0)) wr) := by
              refine CellI.start HRB.out.1 HRB.out.2.1 HRB.out.2.2 HI.out.1 (HI.out.2.congr fun i hi => by rw [if_pos hi])
            clear HI
            go_upto_region 18 with fail
            --CUTg2
            go_loopw [72] (fun i wr => ∃ j : Nat, j ≤ no ∧ i = .int .i64 j ∧ Hid (CellI W9 G (RN : Int) (RN : Int) 0 (runMvs id (done.take j)) wr)) (fun i _ => no - (intOf i).toNat)
            case atStart => exact ⟨0, Nat.zero_le _, rfl, HI3⟩
            case round =>
              clear HI3
              obtain ⟨j, hj, rfl, HI⟩ := hrel
              by_cases hlt2 : j < no
              · have hjl : j < done.length := by rw [HONE.out.2.1]; exact hlt2
                have hq := HB9.out.trans (HI.out.kq.below (B := wc.heap.size) HB9.out.size (Nat.le_of_eq HGG.out) (Nat.le_of_eq HGG.out) (Nat.le_of_eq HGG.out) (fun g hg => by cases hg))
                obtain ⟨b8, off8, rfl, hb8, e0, e1, e2, e3, e4, e5⟩ := mv_at HONE.out.1 j hjl
                replace e0 := (hq.cell (p := ⟨b8, _, none⟩) hb8).trans e0
                replace e1 := (hq.cell (p := ⟨b8, _, none⟩) hb8).trans e1
                replace e2 := (hq.cell (p := ⟨b8, _, none⟩) hb8).trans e2
                replace e3 := (hq.cell (p := ⟨b8, _, none⟩) hb8).trans e3
                replace e4 := (hq.cell (p := ⟨b8, _, none⟩) hb8).trans e4
                replace e5 := (hq.cell (p := ⟨b8, _, none⟩) hb8).trans e5
                obtain ⟨x, hxe⟩ : ∃ x, done[j] = x := ⟨_, rfl⟩
                have hx := HONE.out.2.2.legal x (by rw [← hxe]; exact List.getElem_mem hjl)
                have HT : Hid (done.take (j + 1) = done.take j ++ [x]) := by show _ = _; rw [← hxe]; exact List.take_succ_eq_append_getElem hjl
                rw [hxe] at e0 e1 e2 e3 e4 e5
                have hbs := cellK_bd HRB.out.1 HRB.out.2.1 HRB.out.2.2 hx.a
                have hbd := cellK_bd HRB.out.1 HRB.out.2.1 HRB.out.2.2 hx.b
                obtain ⟨cs, hcs⟩ : ∃ cs : Nat, cellK x.src = (cs : Int) := ⟨(cellK x.src).toNat, by omega⟩
                obtain ⟨cd, hcd⟩ : ∃ cd : Nat, cellK x.dst = (cd : Int) := ⟨(cellK x.dst).toNat, by omega⟩
                have hcs2 : cs < 200 := by omega
                have hcd2 : cd < 200 := by omega
                have hcs3 : (cs : Int) < 200 := by omega
                have hcd3 : (cd : Int) < 200 := by omega
                have HC1 := fun W' => may_cell HRB.out.1 HRB.out.2.1 HRB.out.2.2 hx.b W'
                have HC2 := fun W' => may_cell HRB.out.1 HRB.out.2.1 HRB.out.2.2 hx.a W'
                rw [hcd] at HC1
                rw [hcs] at HC2
                obtain ⟨hv, hhv⟩ : ∃ hv, cellK (runMvs id (done.take j) x.src) = hv := ⟨_, rfl⟩
                obtain ⟨V, hV⟩ : ∃ V, wr.heap.size = V := ⟨_, rfl⟩
                obtain ⟨W3, hW3⟩ : ∃ W3, W3 = wr.alloc (.cells #[.int .i64 x.src.kind, .int .i64 x.src.cls, .int .i64 x.src.n, .int .i64 x.dst.kind, .int .i64 x.dst.cls, .int .i64 x.dst.n] 36) := ⟨_, rfl⟩
                have hb3 : Below wr.heap.size wr W3 := by rw [hW3]; exact (Below.refl _ _).alloc (Nat.le_refl _) _
                have t3 := topO wr #[.int .i64 x.src.kind, .int .i64 x.src.cls, .int .i64 x.src.n, .int .i64 x.dst.kind, .int .i64 x.dst.cls, .int .i64 x.dst.n] 36
                rw [← hW3, hV] at t3
                have zV : V < W3.heap.size := by rw [hW3, ← hV]; simp
                have I3 := HI.out.below hb3
                have HSG : Hid (∀ w', Below W3.heap.size W3 w' → (fun w' => w'.cell? ⟨V, 0, none⟩ = some (.int .i64 x.src.kind) ∧ w'.cell? ⟨V, 1, none⟩ = some (.int .i64 x.src.cls) ∧ w'.cell? ⟨V, 2, none⟩ = some (.int .i64 x.src.n) ∧ w'.cell? ⟨V, 3, none⟩ = some (.int .i64 x.dst.kind) ∧ w'.cell? ⟨V, 4, none⟩ = some (.int .i64 x.dst.cls) ∧ w'.cell? ⟨V, 5, none⟩ = some (.int .i64 x.dst.n) ∧ w'.cell? ⟨G, cs, none⟩ = some (.int .i64 hv)) w') := fun w' hh => by
                  obtain ⟨hf, rr, h2⟩ := (I3.below hh).row
                  refine ⟨(hh.cell (p := ⟨V, 0, none⟩) zV).trans (t3 0), (hh.cell (p := ⟨V, 1, none⟩) zV).trans (t3 1), (hh.cell (p := ⟨V, 2, none⟩) zV).trans (t3 2), (hh.cell (p := ⟨V, 3, none⟩) zV).trans (t3 3), (hh.cell (p := ⟨V, 4, none⟩) zV).trans (t3 4), (hh.cell (p := ⟨V, 5, none⟩) zV).trans (t3 5), ?_⟩
                  have h3 := h2 x.src hx.a
                  have h4 := rr.cell (i := cs) hcs2
                  rw [hcs, Int.toNat_natCast, hhv] at h3
                  rw [h3] at h4
                  exact h4
                have HI3 : Hid (CellI W9 G (RN : Int) (RN : Int) 0 (runMvs id (done.take j)) W3) := I3
                have HX : Hid (LegalM (RN : Int) (RN : Int) 0 x ∧ cellK x.dst = (cd : Int) ∧ cellK (runMvs id (done.take j) x.src) = hv) := ⟨hx, hcd, hhv⟩
                have HW3 : Hid (W3 = wr.alloc (.cells #[.int .i64 x.src.kind, .int .i64 x.src.cls, .int .i64 x.src.n, .int .i64 x.dst.kind, .int .i64 x.dst.cls, .int .i64 x.dst.n] 36)) := hW3
                have HVV : Hid (wr.heap.size = V) := hV
                clear hq hb8 hxe hW3 hV hb3 t3 I3 hcs hcd hhv hbs hbd HI hx
                go_upto_region 20 with fail
                rw [← HW3.out, HVV.out]
                clear HW3 e0 e1 e2 e3 e4 e5
                --CUTg3
                refine wp_region_X (fun w' => w'.cell? ⟨V, 0, none⟩ = some (.int .i64 x.src.kind) ∧ w'.cell? ⟨V, 1, none⟩ = some (.int .i64 x.src.cls) ∧ w'.cell? ⟨V, 2, none⟩ = some (.int .i64 x.src.n) ∧ w'.cell? ⟨V, 3, none⟩ = some (.int .i64 x.dst.kind) ∧ w'.cell? ⟨V, 4, none⟩ = some (.int .i64 x.dst.cls) ∧ w'.cell? ⟨V, 5, none⟩ = some (.int .i64 x.dst.n) ∧ w'.cell? ⟨G, cs, none⟩ = some (.int .i64 hv)) 11 (by kernel_rfl) (HSG.out _ (Below.refl _ _).drew) (fun hHeld => ?_)
                refine wpXt (v := ?_) 0 rfl (by kernel_rfl) (fun _ _ _ h => h) (by rfl) ?_ hHeld ?_
                rotate_left
                · intro w' hSw
                  go_simp <;> with_reducible rfl
                try simp only [Act.put, List.setIfInBounds_toArray, List.set_cons_zero, List.set_cons_succ]
                refine wpXt (v := ?_) 1 rfl (by kernel_rfl) (fun _ _ _ h => h) (by rfl) ?_ hHeld ?_
                rotate_left
                · intro w' hSw
                  go_simp <;> with_reducible rfl
                try simp only [Act.put, List.setIfInBounds_toArray, List.set_cons_zero, List.set_cons_succ]
                refine wpXt (v := ?_) 2 rfl (by kernel_rfl) (fun _ _ _ h => h) (by rfl) ?_ hHeld ?_
                rotate_left
                · intro w' hSw
                  go_simp <;> with_reducible rfl
                try simp only [Act.put, List.setIfInBounds_toArray, List.set_cons_zero, List.set_cons_succ]
                refine wpXt (v := ?_) 4 rfl (by kernel_rfl) (fun _ _ _ h => h) (by rfl) ?_ hHeld ?_
                rotate_left
                · intro w' hSw
                  go_simp <;> with_reducible rfl
                try simp only [Act.put, List.setIfInBounds_toArray, List.set_cons_zero, List.set_cons_succ]
                refine wpXt (v := ?_) 5 rfl (by kernel_rfl) (fun _ _ _ h => h) (by rfl) ?_ hHeld ?_
                rotate_left
                · intro w' hSw
                  go_simp <;> with_reducible rfl
                try simp only [Act.put, List.setIfInBounds_toArray, List.set_cons_zero, List.set_cons_succ]
                refine wpXt (v := ?_) 6 rfl (by kernel_rfl) (fun _ _ _ h => h) (by rfl) ?_ hHeld ?_
                rotate_left
                · intro w' hSw
                  go_simp <;> with_reducible rfl
                try simp only [Act.put, List.setIfInBounds_toArray, List.set_cons_zero, List.set_cons_succ]
                refine wpXs 3 rfl (by kernel_rfl) (fun K hK => ?_)
                go_simp
                refine (HC1 _).mono ?_
                clear HC1
                rintro e w4 ⟨rfl, hb4⟩
                have hd4 := ((Below.refl W3.heap.size W3).drew).trans hb4
                refine hK.out _ _ (HSG.out _ hd4) (fun hHeld => ?_)
                clear hK K
                try simp only [Act.put, List.setIfInBounds_toArray, List.set_cons_zero, List.set_cons_succ]
                refine wpXs 7 rfl (by kernel_rfl) (fun K hK => ?_)
                go_simp
                refine (HC2 _).mono ?_
                clear HC2
                rintro e w5 ⟨rfl, hb5⟩
                have hd5 := hd4.trans (hb5.mono hd4.size)
                have I5 := HI3.out.below hd5
                obtain ⟨hh, rr, _⟩ := I5.row
                have fz := rr.frozen cd
                have fc := rr.cell (i := cd) hcd2
                refine hK.out _ _ (HSG.out _ hd5) (fun hHeld => ?_)
                clear hK K
                try simp only [Act.put, List.setIfInBounds_toArray, List.set_cons_zero, List.set_cons_succ]
                refine wpXt (v := ?_) 8 rfl (by kernel_rfl) (fun _ _ _ h => h) (by rfl) ?_ hHeld ?_
                rotate_left
                · intro w' hSw
                  go_simp <;> with_reducible rfl
                try simp only [Act.put, List.setIfInBounds_toArray, List.set_cons_zero, List.set_cons_succ]
                refine wpXt (v := ?_) 9 rfl (by kernel_rfl) (fun _ _ _ h => h) (by rfl) ?_ hHeld ?_
                rotate_left
                · intro w' hSw
                  go_simp <;> with_reducible rfl
                try simp only [Act.put, List.setIfInBounds_toArray, List.set_cons_zero, List.set_cons_succ]
                refine wpXt (v := ?_) 10 rfl (by kernel_rfl) (fun _ _ _ h => h) (by rfl) ?_ hHeld ?_
                rotate_left
                · intro w' hSw
                  go_simp <;> with_reducible rfl
                try simp only [Act.put, List.setIfInBounds_toArray, List.set_cons_zero, List.set_cons_succ]
                refine wpXl 11 rfl (by kernel_rfl) rfl (by kernel_rfl) (fun K hK => ?_)
                go_simp
                refine hK.out _ _ ?_
                clear hK K
                have HE : Hid (CellI W9 G (RN : Int) (RN : Int) 0 (runMvs id (done.take (j + 1))) (w5.setCell ⟨G, cd, none⟩ (.int .i64 hv))) := by
                  have h := CellI.step HRB.out.1 HRB.out.2.1 HRB.out.2.2 I5 HX.out.1 HX.out.2.1 HX.out.2.2.symm
                  rw [HT.out, runMvs_append]
                  exact h
                clear I5 rr fz fc hHeld hd4 hd5
                go_wp2
                exact ⟨⟨j + 1, by omega, by simp, HE.out⟩, by simp [intOf]; omega⟩
              · have hjn2 : j = no := by omega
                subst hjn2
                have HCELL : Hid (CellI W9 G (RN : Int) (RN : Int) 0 (runMvs id done) wr) := by
                  have h := HI.out
                  rw [List.take_of_length_le (by rw [HONE.out.2.1]; exact Nat.le_refl _)] at h
                  exact h
                clear HI
                --CUTg4
                go_upto_region 23 with fail
                --CUT17
                go_loopw [17] (fun i wr => ∃ j : Nat, j ≤ RN ∧ i = .int .i64 j ∧ Hid (CellI W9 G (RN : Int) (RN : Int) 0 (runMvs id done) wr)) (fun i _ => RN - (intOf i).toNat)
                case atStart => exact ⟨0, Nat.zero_le _, rfl, HCELL⟩
                case round =>
                  clear HCELL
                  obtain ⟨i, hi, rfl, HI⟩ := hrel
                  have HQ : Hid (Below wc.heap.size wc wr) := HB9.out.trans (HI.out.kq.below (B := wc.heap.size) HB9.out.size (Nat.le_of_eq HGG.out) (Nat.le_of_eq HGG.out) (Nat.le_of_eq HGG.out) (fun g hg => by cases hg))
                  have n0 := (HQ.out.cell (p := ⟨M, 0, none⟩) hMc).trans HMD.out
                  by_cases hlt3 : i < RN
                  · have ro := cell_src HI.out HONE.out.2.2 (reg_real (R := (RN : Int)) (fr := 0) (n := (i : Int)) (by omega) (by omega)) (self_src k _) (c := i) (by simp [cellK]) (by omega)
                    rw [show cellK ⟨1, 0, (i : Int)⟩ = (i : Int) from by simp [cellK]] at ro
                    have x4 : (i : Int) < 200 := by omega
                    have HI2 : Hid (CellI W9 G (RN : Int) (RN : Int) 0 (runMvs id done) wr) := HI
                    clear HI HQ
                    go_wp2
                    --CUT18
                    exact ⟨⟨i + 1, by omega, by simp, HI2⟩, by simp [intOf]; omega⟩
                  · have hin : RN = i := by omega
                    have HFB : Hid (Below w.heap.size w wr) := HBC.out.trans (HQ.out.mono HBC.out.size)
                    subst hin
                    clear HI HQ
                    --CUT19
                    go_wp2
                    --CUT20
                    go_ret
                    exact ⟨by simp, HFB.out⟩
end Go.Proofs.Ytdlglinbjkaokaa
