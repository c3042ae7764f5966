/-
  The contract of the closure of mach's 'does' (P5.4): what the uses that are late, or those that are not, have is seen.
-/
import Derived.Test.YtjbjnndmpheedaaQ4
namespace Go.Proofs.Ytjbjnndmpheedaa
open Go.RowKit
set_option linter.unusedVariables false

/-- What is seen: of the uses that are late (or are not) what their place has. -/
def lookP (lt : Bool) (s : Pm) (l : List (Opr × Pl)) (f : Nat → Int) : Nat → Int := fun i => match l[i]? with
  | some x => if x.1.kind = 1 ∧ x.1.late = lt then getP s x.2 else f i
  | none => f i
theorem lookP_nil (lt : Bool) (s : Pm) (f : Nat → Int) : lookP lt s [] f = f := rfl
theorem lookP_take (lt : Bool) (s : Pm) (l : List (Opr × Pl)) (f : Nat → Int) (j : Nat) (h : j < l.length) : lookP lt s (l.take (j + 1)) f = if l[j].1.kind = 1 ∧ l[j].1.late = lt then upR (lookP lt s (l.take j) f) j (getP s l[j].2) else lookP lt s (l.take j) f := by
  have e1 : ∀ i, (l.take (j + 1))[i]? = if i = j then some l[j] else (l.take j)[i]? := by
    intro i
    rw [List.getElem?_take, List.getElem?_take]
    by_cases e : i = j
    · subst e
      simp [h]
    · rw [if_neg e]
      by_cases e2 : i < j
      · rw [if_pos (by omega), if_pos e2]
      · rw [if_neg (by omega), if_neg e2]
  have e2 : (l.take j)[j]? = none := by rw [List.getElem?_take, if_neg (by omega)]
  funext i
  by_cases e : i = j
  · subst e
    by_cases hc : l[i].1.kind = 1 ∧ l[i].1.late = lt
    · rw [if_pos hc]
      unfold lookP upR
      rw [e1, if_pos rfl, if_pos rfl]
      simp only
      rw [if_pos hc]
    · rw [if_neg hc]
      unfold lookP
      rw [e1, if_pos rfl, e2]
      simp only
      rw [if_neg hc]
  · by_cases hc : l[j].1.kind = 1 ∧ l[j].1.late = lt
    · rw [if_pos hc]
      unfold lookP upR
      rw [e1, if_neg e, if_neg e]
    · rw [if_neg hc]
      unfold lookP
      rw [e1, if_neg e]
theorem MwS.far {wb : World} {X G fr : Nat} {h : Nat → Value} {s : Pm} {left : Int} {ve : Value} {w : World} (k : MwS wb X G fr h s left ve w) {b i : Nat} (h1 : X ≠ b) (h2 : G ≠ b) (hb : wb.heap.size ≤ b) (v : Value) : MwS wb X G fr h s left ve (w.setCell ⟨b, i, none⟩ v) :=
  ⟨k.bx.setOther h1 _, k.sl.setOther h2 _, k.h28, k.low.setCell hb _, k.hX, k.hG, k.xg⟩

set_option maxRecDepth 4000 in
set_option maxHeartbeats 8000000 in
theorem look_any (wb : World) (X G fr V Bi Bw Bp : Nat) (h : Nat → Value) (s : Pm) (left : Int) (ve : Value) (ao ap : Option Addr) (no co cp : Nat) (os : List Opr) (ps : List Pl) (f : Nat → Int) (lt : Bool) (w : World) (k0 : MwS wb X G fr h s left ve w) (hfr : fr ≤ 1000) (hos : SlOf wb 5 ROpr (.slice ao no co) os) (hon : os.length = no) (hps : SlOf wb 3 RPl (.slice ap no cp) ps) (hpn : ps.length = no) (hno : no ≤ 6) (hok : ∀ p ∈ ps, PlOk fr p)
    (ci : w.cell? ⟨Bi, 1, none⟩ = some (.slice ao no co)) (cw : w.cell? ⟨Bw, 0, none⟩ = some (.pointer (some ⟨X, 0, none⟩))) (cpl : w.cell? ⟨Bp, 0, none⟩ = some (.slice ap no cp)) (rv : w.rowIs V 132 6 (fun i => .int .i64 (f i))) (n1 : X ≠ V) (n2 : G ≠ V) (n3 : Bi ≠ V) (n4 : Bw ≠ V) (n5 : Bp ≠ V) (hV : wb.heap.size ≤ V) :
    Calls Try.prog 63 #[.bool lt, .pointer (some ⟨Bi, 0, none⟩), .pointer (some ⟨Bw, 0, none⟩), .pointer (some ⟨Bp, 0, none⟩), .pointer (some ⟨V, 0, none⟩)] w fun e w' => e = .returned (.tuple #[]) ∧ MwS wb X G fr h s left ve w' ∧ w'.rowIs V 132 6 (fun i => .int .i64 (lookP lt s (os.zip ps) f i)) ∧ Kp V V w w' := by
  have HK0 : Hid (MwS wb X G fr h s left ve w ∧ w.rowIs V 132 6 (fun i => .int .i64 (lookP lt s ((os.zip ps).take 0) f i)) ∧ Kp V V w w) := ⟨k0, rv, Kp.refl _ _ _⟩
  have HOS : Hid (SlOf wb 5 ROpr (.slice ao no co) os ∧ os.length = no) := ⟨hos, hon⟩
  have HPS : Hid (SlOf wb 3 RPl (.slice ap no cp) ps ∧ ps.length = no) := ⟨hps, hpn⟩
  have HPK : Hid (∀ p ∈ ps, PlOk fr p) := hok
  have HN : Hid (X ≠ V ∧ G ≠ V ∧ wb.heap.size ≤ V) := ⟨n1, n2, hV⟩
  have HCC : Hid (∀ w', Kp V V w w' → w'.cell? ⟨Bi, 1, none⟩ = some (.slice ao no co) ∧ w'.cell? ⟨Bw, 0, none⟩ = some (.pointer (some ⟨X, 0, none⟩)) ∧ w'.cell? ⟨Bp, 0, none⟩ = some (.slice ap no cp)) := fun w' hh => ⟨hh.cell n3 n3 ci, hh.cell n4 n4 cw, hh.cell n5 n5 cpl⟩
  clear k0 hos hon hps hpn hok rv n1 n2 n3 n4 n5 hV cw cpl
  go_enter Try.func63, Try.ntmps63
  go_wp2_with fail
  clear ci
  go_loopw [11] (fun i wr => ∃ j : Nat, j ≤ no ∧ i = .int .i64 j ∧ Hid (MwS wb X G fr h s left ve wr ∧ wr.rowIs V 132 6 (fun i => .int .i64 (lookP lt s ((os.zip ps).take j) f i)) ∧ Kp V V w wr)) (fun i _ => no - (intOf i).toNat)
  case atStart => exact ⟨0, Nat.zero_le _, rfl, HK0.out⟩
  case round =>
    clear HK0
    obtain ⟨j, hj, rfl, HI⟩ := hrel
    by_cases hlt : j < no
    · skip
      have hjo : j < os.length := by rw [HOS.out.2]; exact hlt
      have hjp : j < ps.length := by rw [HPS.out.2]; exact hlt
      have hji : (j : Int) < (no : Int) := by omega
      obtain ⟨b8, off8, rfl, hb8, o0, o1, o2, o3, o4⟩ := opr_at (HOS.out.1.below HI.out.1.low fun _ _ h => h) j hjo
      obtain ⟨bp, offp, rfl, hbp, d0, d1, d2⟩ := pl_cell (HPS.out.1.below HI.out.1.low fun _ _ h => h) j hjp
      have HPO : Hid (PlOk fr ps[j]) := HPK.out _ (List.getElem_mem hjp)
      have hz : j < (os.zip ps).length := by rw [List.length_zip]; omega
      have ez : (os.zip ps)[j] = (os[j], ps[j]) := by simp
      have HT : Hid (lookP lt s ((os.zip ps).take (j + 1)) f = if os[j].kind = 1 ∧ os[j].late = lt then upR (lookP lt s ((os.zip ps).take j) f) j (getP s ps[j]) else lookP lt s ((os.zip ps).take j) f) := by
        have h1 := lookP_take lt s (os.zip ps) f j hz
        rw [ez] at h1
        exact h1
      clear ez hz
      generalize os[j] = o at *
      generalize ps[j] = p at *
      generalize lookP lt s ((os.zip ps).take j) f = g at *
      obtain ⟨okd, ovl, olt, olm, onn⟩ := o
      simp only at o0 o1 o2 o3 o4
      obtain ⟨W5, hW5⟩ : ∃ W5, W5 = wr.alloc (.cells #[.int .i64 okd, .int .i64 ovl, .bool olt, .int .i64 olm, .int .i64 onn] 78) := ⟨_, rfl⟩
      obtain ⟨M, hM⟩ : ∃ M, wr.heap.size = M := ⟨_, rfl⟩
      have b5 : Below wr.heap.size wr W5 := by rw [hW5]; exact (Below.refl _ _).alloc (Nat.le_refl _) _
      have m0 : W5.cell? ⟨M, 0, none⟩ = some (.int .i64 okd) := by rw [hW5, ← hM]; simp
      have m2 : W5.cell? ⟨M, 2, none⟩ = some (.bool olt) := by rw [hW5, ← hM]; simp
      have lM : M < W5.heap.size := by rw [hW5, ← hM]; simp
      have HK5 : Hid (MwS wb X G fr h s left ve W5) := HI.out.1.below b5
      have HV5 : Hid (W5.rowIs V 132 6 (fun i => .int .i64 (g i))) := HI.out.2.1.of_block (b5.block _ HI.out.2.1.lt)
      have HQ5 : Hid (Kp V V w W5) := HI.out.2.2.trans (Kp.below b5)
      have HW5 : Hid (W5 = wr.alloc (.cells #[.int .i64 okd, .int .i64 ovl, .bool olt, .int .i64 olm, .int .i64 onn] 78)) := hW5
      have HMM : Hid (wr.heap.size = M) := hM
      by_cases hk1 : okd = 1 ∧ olt = lt
      · obtain ⟨hk2, hk3⟩ := hk1
        have q : (okd == 1) = true := by simp [hk2]
        have q2 : (olt == lt) = true := by simp [hk3]
        have hj6 : j < 6 := by omega
        have hj6i : (j : Int) < 6 := by omega
        have HE : Hid (lookP lt s ((os.zip ps).take (j + 1)) f = upR g j (getP s p)) := by
          have h1 := HT.out
          rw [if_pos ⟨hk2, hk3⟩] at h1
          exact h1
        have HSF : Hid (∀ w', Below W5.heap.size W5 w' → (fun w' => w'.cell? ⟨Bw, 0, none⟩ = some (.pointer (some ⟨X, 0, none⟩)) ∧ w'.cell? ⟨Bp, 0, none⟩ = some (.slice (some ⟨bp, offp, none⟩) no cp) ∧ w'.cell? ⟨bp, offp + j * 3, none⟩ = some (.int .i64 p.kind) ∧ w'.cell? ⟨bp, offp + j * 3 + 1, none⟩ = some (.int .i64 p.cls) ∧ w'.cell? ⟨bp, offp + j * 3 + 1 + 1, none⟩ = some (.int .i64 p.n)) w') := fun w' hh => by
          obtain ⟨_, a1, a2⟩ := HCC.out _ (HQ5.out.trans (Kp.below hh))
          have hb : bp < W5.heap.size := Nat.lt_of_lt_of_le hbp b5.size
          exact ⟨a1, a2, (hh.cell hb).trans ((b5.cell hbp).trans d0), (hh.cell hb).trans ((b5.cell hbp).trans d1), (hh.cell hb).trans ((b5.cell hbp).trans d2)⟩
        have HC1 := at_any HK5.out hfr p HPO.out W5.drew (Below.refl _ _).drew
        clear hW5 hM hk2 hk3 HI HT
        go_upto_region 3 with fail
        try rw [← HW5.out]
        try rw [HMM.out]
        go_upto_region 4 with fail
        clear HW5 HMM o0 o1 o2 o3 o4 hb8 d0 d1 d2 hbp m0 m2 lM b5 q q2
        --CUT
        refine wp_region_X (fun w' => w'.cell? ⟨Bw, 0, none⟩ = some (.pointer (some ⟨X, 0, none⟩)) ∧ w'.cell? ⟨Bp, 0, none⟩ = some (.slice (some ⟨bp, offp, none⟩) no cp) ∧ w'.cell? ⟨bp, offp + j * 3, none⟩ = some (.int .i64 p.kind) ∧ w'.cell? ⟨bp, offp + j * 3 + 1, none⟩ = some (.int .i64 p.cls) ∧ w'.cell? ⟨bp, offp + j * 3 + 1 + 1, none⟩ = some (.int .i64 p.n)) 12 (by kernel_rfl) (HSF.out _ (Below.refl _ _).drew) (fun hHeld => ?_)
        refine wpXt (v := ?_) 0 rfl (by kernel_rfl) (fun _ _ _ h => h) (by rfl) ?_ hHeld ?_
        rotate_left
        · intro w' hSw
          go_simp <;> with_reducible rfl
        try simp only [Act.put, List.setIfInBounds_toArray, List.set_cons_zero, List.set_cons_succ]
        refine wpXt (v := ?_) 1 rfl (by kernel_rfl) (fun _ _ _ h => h) (by rfl) ?_ hHeld ?_
        rotate_left
        · intro w' hSw
          go_simp <;> with_reducible rfl
        try simp only [Act.put, List.setIfInBounds_toArray, List.set_cons_zero, List.set_cons_succ]
        refine wpXt (v := ?_) 2 rfl (by kernel_rfl) (fun _ _ _ h => h) (by rfl) ?_ hHeld ?_
        rotate_left
        · intro w' hSw
          go_simp <;> with_reducible rfl
        try simp only [Act.put, List.setIfInBounds_toArray, List.set_cons_zero, List.set_cons_succ]
        refine wpXt (v := ?_) 3 rfl (by kernel_rfl) (fun _ _ _ h => h) (by rfl) ?_ hHeld ?_
        rotate_left
        · intro w' hSw
          go_simp <;> with_reducible rfl
        try simp only [Act.put, List.setIfInBounds_toArray, List.set_cons_zero, List.set_cons_succ]
        refine wpXt (v := ?_) 4 rfl (by kernel_rfl) (fun _ _ _ h => h) (by rfl) ?_ hHeld ?_
        rotate_left
        · intro w' hSw
          go_simp <;> with_reducible rfl
        try simp only [Act.put, List.setIfInBounds_toArray, List.set_cons_zero, List.set_cons_succ]
        refine wpXt (v := ?_) 5 rfl (by kernel_rfl) (fun _ _ _ h => h) (by rfl) ?_ hHeld ?_
        rotate_left
        · intro w' hSw
          go_simp <;> with_reducible rfl
        try simp only [Act.put, List.setIfInBounds_toArray, List.set_cons_zero, List.set_cons_succ]
        refine wpXt (v := ?_) 6 rfl (by kernel_rfl) (fun _ _ _ h => h) (by rfl) ?_ hHeld ?_
        rotate_left
        · intro w' hSw
          go_simp <;> with_reducible rfl
        try simp only [Act.put, List.setIfInBounds_toArray, List.set_cons_zero, List.set_cons_succ]
        refine wpXt (v := ?_) 7 rfl (by kernel_rfl) (fun _ _ _ h => h) (by rfl) ?_ hHeld ?_
        rotate_left
        · intro w' hSw
          go_simp <;> with_reducible rfl
        try simp only [Act.put, List.setIfInBounds_toArray, List.set_cons_zero, List.set_cons_succ]
        refine wpXs 8 rfl (by kernel_rfl) (fun K hK => ?_)
        go_simp
        refine HC1.mono ?_
        clear HC1
        rintro e w6 ⟨rfl, hb6⟩
        have HB6 : Hid (Below W5.heap.size W5 w6) := ((Below.refl _ _).drew).trans hb6
        clear hb6
        have HK6 : Hid (MwS wb X G fr h s left ve w6) := HK5.out.below HB6.out
        have HV6 : Hid (w6.rowIs V 132 6 (fun i => .int .i64 (g i))) := HV5.out.of_block (HB6.out.block _ HV5.out.lt)
        obtain ⟨p1, p2, p3⟩ := HK6.out.get HPO.out
        have v1 := HV6.out.cell (i := j) hj6
        have v2 := HV6.out.frozen j
        have v3 := HV6.out.lt
        refine hK.out _ _ (HSF.out _ HB6.out) (fun hHeld => ?_)
        clear hK K
        try simp only [Act.put, List.setIfInBounds_toArray, List.set_cons_zero, List.set_cons_succ]
        refine wpXs 9 rfl (by kernel_rfl) (fun K hK => ?_)
        go_simp
        refine hK.out _ _ (HSF.out _ HB6.out) (fun hHeld => ?_)
        clear hK K
        try simp only [Act.put, List.setIfInBounds_toArray, List.set_cons_zero, List.set_cons_succ]
        refine wpXs 10 rfl (by kernel_rfl) (fun K hK => ?_)
        go_simp
        refine hK.out _ _ (HSF.out _ HB6.out) (fun hHeld => ?_)
        clear hK K
        try simp only [Act.put, List.setIfInBounds_toArray, List.set_cons_zero, List.set_cons_succ]
        refine wpXt (v := ?_) 11 rfl (by kernel_rfl) (fun _ _ _ h => h) (by rfl) ?_ hHeld ?_
        rotate_left
        · intro w' hSw
          go_simp <;> with_reducible rfl
        try simp only [Act.put, List.setIfInBounds_toArray, List.set_cons_zero, List.set_cons_succ]
        refine wpXl 12 rfl (by kernel_rfl) rfl (by kernel_rfl) (fun K hK => ?_)
        go_simp
        refine hK.out _ _ ?_
        clear hK K

        have HR3 : Hid (MwS wb X G fr h s left ve (w6.setCell ⟨V, j, none⟩ (.int .i64 (getP s p))) ∧ (w6.setCell ⟨V, j, none⟩ (.int .i64 (getP s p))).rowIs V 132 6 (fun i => .int .i64 (lookP lt s ((os.zip ps).take (j + 1)) f i)) ∧ Kp V V w (w6.setCell ⟨V, j, none⟩ (.int .i64 (getP s p)))) := by
          rw [HE.out]
          refine ⟨HK6.out.far HN.out.1 HN.out.2.1 HN.out.2.2 _, (HV6.out.set _ _).congr fun i hi => ?_, (HQ5.out.trans (Kp.below HB6.out)).trans (Kp.set (Or.inl rfl))⟩
          unfold upR
          by_cases e : i = j <;> simp [e]
        clear p1 p2 p3 v1 v2 v3 HK6 HV6 HV5 HB6 HK5 HSF
        go_wp2
        go_roundw
        case rel => exact ⟨j + 1, by omega, by go_num, HR3⟩
        case measure => simp [intOf]; omega
      · have HR3 : Hid (MwS wb X G fr h s left ve W5 ∧ W5.rowIs V 132 6 (fun i => .int .i64 (lookP lt s ((os.zip ps).take (j + 1)) f i)) ∧ Kp V V w W5) := by
          have h1 := HT.out
          rw [if_neg hk1] at h1
          rw [h1]
          exact ⟨HK5.out, HV5.out, HQ5.out⟩
        rw [hW5] at HR3
        by_cases hk2 : okd = 1
        · have q : (okd == 1) = true := by simp [hk2]
          have q2 : (olt == lt) = false := by
            cases olt <;> cases lt <;> simp_all
          clear hW5 hM hk1 hk2 HI HT HK5 HV5 HQ5 HW5 HMM m0 m2 lM b5
          go_wp2
          go_roundw
          case rel => exact ⟨j + 1, by omega, by go_num, HR3⟩
          case measure => simp [intOf]; omega
        · have q : (okd == 1) = false := by simpa using hk2
          clear hW5 hM hk1 hk2 HI HT HK5 HV5 HQ5 HW5 HMM m0 m2 lM b5
          go_wp2
          go_roundw
          case rel => exact ⟨j + 1, by omega, by go_num, HR3⟩
          case measure => simp [intOf]; omega
    · have HE : Hid (MwS wb X G fr h s left ve wr ∧ wr.rowIs V 132 6 (fun i => .int .i64 (lookP lt s (os.zip ps) f i)) ∧ Kp V V w wr) := by
        have h1 := HI.out
        rw [List.take_of_length_le (by rw [List.length_zip]; have := HOS.out.2; omega)] at h1
        exact h1
      clear HI
      go_wp2
      go_end0
      exact ⟨rfl, HE.out⟩
end Go.Proofs.Ytjbjnndmpheedaa
