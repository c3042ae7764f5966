/-
  The contracts of mach's 'makes' and 'spoils' (P5.4).
-/
import Derived.Test.YtjbjnndmpheedaaQ2
namespace Go.Proofs.Ytjbjnndmpheedaa
open Go.RowKit
set_option linter.unusedVariables false

/-- What the defs among these operands make, from place number k on. -/
def makesP (seed op : Int) (read : List Int) : Nat → List (Opr × Pl) → Pm → Pm
  | _, [], s => s
  | k, x :: r, s => makesP seed op read (k + 1) r (if x.1.kind = 2 then putP s x.2 (mixL 7 ([seed, op, (k : Int)] ++ read)) else s)
theorem makesP_take (seed op : Int) (read : List Int) : ∀ (l : List (Opr × Pl)) (k : Nat) (s : Pm) (j : Nat) (h : j < l.length), makesP seed op read k (l.take (j + 1)) s = if l[j].1.kind = 2 then putP (makesP seed op read k (l.take j) s) l[j].2 (mixL 7 ([seed, op, ((k + j : Nat) : Int)] ++ read)) else makesP seed op read k (l.take j) s
  | [], _, _, _, h => by simp at h
  | x :: r, k, s, 0, _ => by
    simp only [List.take_succ_cons, List.take_zero, makesP, List.getElem_cons_zero, Nat.add_zero]
  | x :: r, k, s, j + 1, h => by
    have ih := makesP_take seed op read r (k + 1) (if x.1.kind = 2 then putP s x.2 (mixL 7 ([seed, op, (k : Int)] ++ read)) else s) j (by simpa using h)
    rw [List.take_succ_cons, List.take_succ_cons]
    simp only [makesP, List.getElem_cons_succ]
    rw [ih, show k + 1 + j = k + (j + 1) by omega]
theorem sl_kp {w w' : World} {X G : Nat} {a : Option Addr} {n c : Nat} {l : List Int} (h : SlOf w 1 RInt (.slice a n c) l) (hk : Kp X G w w') (hn : l = [] ∨ ∀ g, (Value.slice a n c).ownBlock = some g → g ≠ X ∧ g ≠ G) : SlOf w' 1 RInt (.slice a n c) l := by
  obtain ⟨a', c', hv, hl, h1⟩ := h
  refine ⟨a', c', hv, hl, ?_⟩
  rcases hn with e | hn
  · exact Or.inl e
  · refine h1.imp id ?_
    rintro ⟨b, off, ha, h2⟩
    refine ⟨b, off, ha, fun i hi => ?_⟩
    obtain ⟨cs, h3, h4, h5⟩ := h2 i hi
    obtain ⟨hb1, hb2⟩ := hn b (by rw [hv, ha]; rfl)
    exact ⟨cs, h3, h4, fun j hj => hk.cell hb1 hb2 (h5 j hj)⟩
theorem opr_at {w : World} {aa : Option Addr} {ca n : Nat} {all : List Opr} (ha : SlOf w 5 ROpr (.slice aa n ca) all) (i : Nat) (hi : i < all.length) : ∃ b off, aa = some ⟨b, off, none⟩ ∧ b < w.heap.size ∧ w.cell? ⟨b, off + i * 5, none⟩ = some (.int .i64 all[i].kind) ∧ w.cell? ⟨b, off + i * 5 + 1, none⟩ = some (.int .i64 all[i].value) ∧ w.cell? ⟨b, off + i * 5 + 1 + 1, none⟩ = some (.bool all[i].late) ∧ w.cell? ⟨b, off + i * 5 + 1 + 1 + 1, none⟩ = some (.int .i64 all[i].limit) ∧ w.cell? ⟨b, off + i * 5 + 1 + 1 + 1 + 1, none⟩ = some (.int .i64 all[i].n) := by
  obtain ⟨b, off, cs, h1, h2, h3, h4⟩ := ha.at i hi
  unfold ROpr at h3
  subst h3
  have c0 := h4 0 (by simp)
  have c1 := h4 1 (by simp)
  have c2 := h4 2 (by simp)
  have c3 := h4 3 (by simp)
  have c4 := h4 4 (by simp)
  exact ⟨b, off, h1, block_lt c0, c0, c1, c2, c3, c4⟩

set_option maxRecDepth 4000 in
set_option maxHeartbeats 8000000 in
theorem mmakes_any (wb : World) (X G fr : Nat) (h : Nat → Value) (s0 : Pm) (left : Int) (ve : Value) (op : Int) (ao ap asp : Option Addr) (no co cp nsp csp : Nat) (os : List Opr) (ps : List Pl) (w : World) (k0 : MwS wb X G fr h s0 left ve w) (hfr : fr ≤ 1000) (hos : SlOf wb 5 ROpr (.slice ao no co) os) (hon : os.length = no) (hps : SlOf wb 3 RPl (.slice ap no cp) ps) (hpn : ps.length = no) (hno : no ≤ 1000) (hok : ∀ p ∈ ps, PlOk fr p) (seed : Int) (read : List Int) (ar : Option Addr) (nr cr : Nat) (h4 : h 4 = .int .i64 seed) (hrd : SlOf w 1 RInt (.slice ar nr cr) read) (hrl : read.length = nr) (hrY : read = [] ∨ ∀ g, (Value.slice ar nr cr).ownBlock = some g → g ≠ X ∧ g ≠ G) :
    Calls Try.prog 65 #[.pointer (some ⟨X, 0, none⟩), .agg #[.int .i64 op, .slice ao no co, .slice asp nsp csp], .slice ap no cp, .slice ar nr cr] w fun e w' => e = .returned (.tuple #[]) ∧ MwS wb X G fr h (makesP seed op read 0 (os.zip ps) s0) left ve w' ∧ Kp X G w w' := by
  obtain ⟨Z, hZ⟩ : ∃ Z, w.heap.size = Z := ⟨_, rfl⟩
  obtain ⟨W, hW⟩ : ∃ W, W = w.alloc (.cells #[.int .i64 op, .slice ao no co, .slice asp nsp csp] 45) := ⟨_, rfl⟩
  have hbw : Below w.heap.size w W := by rw [hW]; exact (Below.refl _ _).alloc (Nat.le_refl _) _
  have t0 := top_at w #[.int .i64 op, .slice ao no co, .slice asp nsp csp] 45
  rw [← hW, hZ] at t0
  have lZ : Z < W.heap.size := block_lt (t0 0)
  have hZX : Z ≠ X := by have := k0.bx.lt; omega
  have hZG : Z ≠ G := by have := k0.sl.lt; omega
  have HZ : Hid (∀ w', Kp X G W w' → w'.cell? ⟨Z, 0, none⟩ = some (.int .i64 op) ∧ w'.cell? ⟨Z, 1, none⟩ = some (.slice ao no co) ∧ w'.cell? ⟨Z, 2, none⟩ = some (.slice asp nsp csp) ∧ Z < w'.heap.size) := fun w' hh => ⟨hh.cell hZX hZG (t0 0), hh.cell hZX hZG (t0 1), hh.cell hZX hZG (t0 2), Nat.lt_of_lt_of_le lZ hh.size⟩
  have HWK : Hid (Kp X G w W) := Kp.below hbw
  have HOS : Hid (SlOf wb 5 ROpr (.slice ao no co) os ∧ os.length = no) := ⟨hos, hon⟩
  have HPS : Hid (SlOf wb 3 RPl (.slice ap no cp) ps ∧ ps.length = no) := ⟨hps, hpn⟩
  have HPK : Hid (∀ p ∈ ps, PlOk fr p) := hok
  have HW : Hid (W = w.alloc (.cells #[.int .i64 op, .slice ao no co, .slice asp nsp csp] 45)) := hW
  have HZZ : Hid (w.heap.size = Z) := hZ
  obtain ⟨x0, x1, x2, lZ'⟩ := HZ.out W (Kp.refl _ _ _)
  have HK0 : Hid (MwS wb X G fr h (makesP seed op read 0 ((os.zip ps).take 0) s0) left ve W ∧ Kp X G W W) := ⟨k0.below hbw, Kp.refl _ _ _⟩
  have HRD : Hid (SlOf W 1 RInt (.slice ar nr cr) read ∧ read.length = nr) := ⟨hrd.below hbw fun _ _ h => h, hrl⟩
  have HRY : Hid (read = [] ∨ ∀ g, (Value.slice ar nr cr).ownBlock = some g → g ≠ X ∧ g ≠ G) := hrY
  have H4 : Hid (h 4 = .int .i64 seed) := h4
  clear k0 hos hon hps hpn hok hW hZ t0 lZ hbw hrd hrl hrY h4
  go_enter Try.func65, Try.ntmps65
  go_upto_region 1 with fail
  rw [← HW.out, HZZ.out]
  go_wp2_with fail
  clear HW HZZ x0 x1 x2 lZ'
  go_loopw [13] (fun i wr => ∃ j : Nat, j ≤ no ∧ i = .int .i64 j ∧ Hid (MwS wb X G fr h (makesP seed op read 0 ((os.zip ps).take j) s0) left ve wr ∧ Kp X G W wr)) (fun i _ => no - (intOf i).toNat)
  case atStart => exact ⟨0, Nat.zero_le _, rfl, HK0.out⟩
  case round =>
    clear HK0
    obtain ⟨j, hj, rfl, HI⟩ := hrel
    by_cases hlt : j < no
    · skip
      have hjo : j < os.length := by rw [HOS.out.2]; exact hlt
      have hjp : j < ps.length := by rw [HPS.out.2]; exact hlt
      have hji : (j : Int) < (no : Int) := by omega
      obtain ⟨b8, off8, rfl, hb8, o0, o1, o2, o3, o4⟩ := opr_at (HOS.out.1.below HI.out.1.low fun _ _ h => h) j hjo
      obtain ⟨bp, offp, rfl, hbp, d0, d1, d2⟩ := pl_cell (HPS.out.1.below HI.out.1.low fun _ _ h => h) j hjp
      have HPO : Hid (PlOk fr ps[j]) := HPK.out _ (List.getElem_mem hjp)
      have hz : j < (os.zip ps).length := by rw [List.length_zip]; omega
      have ez : (os.zip ps)[j] = (os[j], ps[j]) := by simp
      have HT : Hid (makesP seed op read 0 ((os.zip ps).take (j + 1)) s0 = if os[j].kind = 2 then putP (makesP seed op read 0 ((os.zip ps).take j) s0) ps[j] (mixL 7 ([seed, op, (j : Int)] ++ read)) else makesP seed op read 0 ((os.zip ps).take j) s0) := by
        have h1 := makesP_take seed op read (os.zip ps) 0 s0 j hz
        rw [ez, Nat.zero_add] at h1
        exact h1
      clear ez hz
      generalize os[j] = o at *
      generalize ps[j] = p at *
      generalize makesP seed op read 0 ((os.zip ps).take j) s0 = s at *
      obtain ⟨okd, ovl, olt, olm, onn⟩ := o
      simp only at o0 o1 o2 o3 o4
      obtain ⟨W5, hW5⟩ : ∃ W5, W5 = wr.alloc (.cells #[.int .i64 okd, .int .i64 ovl, .bool olt, .int .i64 olm, .int .i64 onn] 78) := ⟨_, rfl⟩
      obtain ⟨M, hM⟩ : ∃ M, wr.heap.size = M := ⟨_, rfl⟩
      have b5 : Below wr.heap.size wr W5 := by rw [hW5]; exact (Below.refl _ _).alloc (Nat.le_refl _) _
      have m0 : W5.cell? ⟨M, 0, none⟩ = some (.int .i64 okd) := by rw [hW5, ← hM]; simp
      have lM : M < W5.heap.size := by rw [hW5, ← hM]; simp
      have HK5 : Hid (MwS wb X G fr h s left ve W5) := HI.out.1.below b5
      have HQ5 : Hid (Kp X G W W5) := HI.out.2.trans (Kp.below b5)
      have HW5 : Hid (W5 = wr.alloc (.cells #[.int .i64 okd, .int .i64 ovl, .bool olt, .int .i64 olm, .int .i64 onn] 78)) := hW5
      have HMM : Hid (wr.heap.size = M) := hM
      by_cases hk1 : okd = 2
      · have q : (okd == 2) = true := by simp [hk1]
        obtain ⟨x, hx⟩ : ∃ x, mixL 7 ([seed, op, (j : Int)] ++ read) = x := ⟨_, rfl⟩
        have HX : Hid (mixL 7 ([seed, op, (j : Int)] ++ read) = x) := hx
        have HE : Hid (makesP seed op read 0 ((os.zip ps).take (j + 1)) s0 = putP s p x) := by
          have h1 := HT.out
          rw [if_pos hk1, hx] at h1
          exact h1
        have HRD5 : Hid (SlOf W5 1 RInt (.slice ar nr cr) read) := sl_kp HRD.out.1 HQ5.out HRY.out
        have HSF : Hid (∀ w', Below W5.heap.size W5 w' → (fun w' => w'.cell? ⟨X, 4, none⟩ = some (.int .i64 seed) ∧ w'.cell? ⟨Z, 0, none⟩ = some (.int .i64 op) ∧ w'.cell? ⟨Z, 1, none⟩ = some (.slice (some ⟨b8, off8, none⟩) no co) ∧ w'.cell? ⟨Z, 2, none⟩ = some (.slice asp nsp csp) ∧ w'.cell? ⟨bp, offp + j * 3, none⟩ = some (.int .i64 p.kind) ∧ w'.cell? ⟨bp, offp + j * 3 + 1, none⟩ = some (.int .i64 p.cls) ∧ w'.cell? ⟨bp, offp + j * 3 + 1 + 1, none⟩ = some (.int .i64 p.n)) w') := fun w' hh => by
          obtain ⟨a0, a1, a2, _⟩ := HZ.out _ (HQ5.out.trans (Kp.below hh))
          have c4 : w'.cell? ⟨X, 4, none⟩ = some (.int .i64 seed) := by
            rw [(HK5.out.below hh).bx.cell (i := 4) (by omega)]
            unfold mwF
            rw [if_neg (by omega), if_neg (by omega), if_neg (by omega), if_neg (by omega), H4.out]
          have hb : bp < W5.heap.size := Nat.lt_of_lt_of_le hbp b5.size
          exact ⟨c4, a0, a1, a2, (hh.cell hb).trans ((b5.cell hbp).trans d0), (hh.cell hb).trans ((b5.cell hbp).trans d1), (hh.cell hb).trans ((b5.cell hbp).trans d2)⟩
        have HC1 := at_any HK5.out hfr p HPO.out W5.drew (Below.refl _ _).drew
        clear hW5 hM hx hk1 HI HT
        go_upto_region 4 with fail
        try rw [← HW5.out]
        try rw [HMM.out]
        go_upto_region 5 with fail
        clear HW5 HMM o0 o1 o2 o3 o4 hb8 d0 d1 d2 hbp m0 lM b5
        refine wp_region_X (fun w' => w'.cell? ⟨X, 4, none⟩ = some (.int .i64 seed) ∧ w'.cell? ⟨Z, 0, none⟩ = some (.int .i64 op) ∧ w'.cell? ⟨Z, 1, none⟩ = some (.slice (some ⟨b8, off8, none⟩) no co) ∧ w'.cell? ⟨Z, 2, none⟩ = some (.slice asp nsp csp) ∧ w'.cell? ⟨bp, offp + j * 3, none⟩ = some (.int .i64 p.kind) ∧ w'.cell? ⟨bp, offp + j * 3 + 1, none⟩ = some (.int .i64 p.cls) ∧ w'.cell? ⟨bp, offp + j * 3 + 1 + 1, none⟩ = some (.int .i64 p.n)) 17 (by kernel_rfl) (HSF.out _ (Below.refl _ _).drew) (fun hHeld => ?_)
        refine wpXt (v := ?_) 0 rfl (by kernel_rfl) (fun _ _ _ h => h) (by rfl) ?_ hHeld ?_
        rotate_left
        · intro w' hSw
          go_simp <;> with_reducible rfl
        try simp only [Act.put, List.setIfInBounds_toArray, List.set_cons_zero, List.set_cons_succ]
        refine wpXt (v := ?_) 1 rfl (by kernel_rfl) (fun _ _ _ h => h) (by rfl) ?_ hHeld ?_
        rotate_left
        · intro w' hSw
          go_simp <;> with_reducible rfl
        try simp only [Act.put, List.setIfInBounds_toArray, List.set_cons_zero, List.set_cons_succ]
        refine wpXt (v := ?_) 2 rfl (by kernel_rfl) (fun _ _ _ h => h) (by rfl) ?_ hHeld ?_
        rotate_left
        · intro w' hSw
          go_simp <;> with_reducible rfl
        try simp only [Act.put, List.setIfInBounds_toArray, List.set_cons_zero, List.set_cons_succ]
        refine wpXt (v := ?_) 3 rfl (by kernel_rfl) (fun _ _ _ h => h) (by rfl) ?_ hHeld ?_
        rotate_left
        · intro w' hSw
          go_simp <;> with_reducible rfl
        try simp only [Act.put, List.setIfInBounds_toArray, List.set_cons_zero, List.set_cons_succ]
        refine wpXt (v := ?_) 4 rfl (by kernel_rfl) (fun _ _ _ h => h) (by rfl) ?_ hHeld ?_
        rotate_left
        · intro w' hSw
          go_simp <;> with_reducible rfl
        try simp only [Act.put, List.setIfInBounds_toArray, List.set_cons_zero, List.set_cons_succ]
        refine wpXt (v := ?_) 5 rfl (by kernel_rfl) (fun _ _ _ h => h) (by rfl) ?_ hHeld ?_
        rotate_left
        · intro w' hSw
          go_simp <;> with_reducible rfl
        try simp only [Act.put, List.setIfInBounds_toArray, List.set_cons_zero, List.set_cons_succ]
        refine wpXt (v := ?_) 6 rfl (by kernel_rfl) (fun _ _ _ h => h) (by rfl) ?_ hHeld ?_
        rotate_left
        · intro w' hSw
          go_simp <;> with_reducible rfl
        try simp only [Act.put, List.setIfInBounds_toArray, List.set_cons_zero, List.set_cons_succ]
        refine wpXt (v := ?_) 8 rfl (by kernel_rfl) (fun _ _ _ h => h) (by rfl) ?_ hHeld ?_
        rotate_left
        · intro w' hSw
          go_simp <;> with_reducible rfl
        try simp only [Act.put, List.setIfInBounds_toArray, List.set_cons_zero, List.set_cons_succ]
        refine wpXt (v := ?_) 9 rfl (by kernel_rfl) (fun _ _ _ h => h) (by rfl) ?_ hHeld ?_
        rotate_left
        · intro w' hSw
          go_simp <;> with_reducible rfl
        try simp only [Act.put, List.setIfInBounds_toArray, List.set_cons_zero, List.set_cons_succ]
        refine wpXt (v := ?_) 10 rfl (by kernel_rfl) (fun _ _ _ h => h) (by rfl) ?_ hHeld ?_
        rotate_left
        · intro w' hSw
          go_simp <;> with_reducible rfl
        try simp only [Act.put, List.setIfInBounds_toArray, List.set_cons_zero, List.set_cons_succ]
        refine wpXt (v := ?_) 11 rfl (by kernel_rfl) (fun _ _ _ h => h) (by rfl) ?_ hHeld ?_
        rotate_left
        · intro w' hSw
          go_simp <;> with_reducible rfl
        try simp only [Act.put, List.setIfInBounds_toArray, List.set_cons_zero, List.set_cons_succ]
        refine wpXt (v := ?_) 12 rfl (by kernel_rfl) (fun _ _ _ h => h) (by rfl) ?_ hHeld ?_
        rotate_left
        · intro w' hSw
          go_simp <;> with_reducible rfl
        try simp only [Act.put, List.setIfInBounds_toArray, List.set_cons_zero, List.set_cons_succ]
        refine wpXt (v := ?_) 13 rfl (by kernel_rfl) (fun _ _ _ h => h) (by rfl) ?_ hHeld ?_
        rotate_left
        · intro w' hSw
          go_simp <;> with_reducible rfl
        try simp only [Act.put, List.setIfInBounds_toArray, List.set_cons_zero, List.set_cons_succ]
        refine wpXt (v := ?_) 14 rfl (by kernel_rfl) (fun _ _ _ h => h) (by rfl) ?_ hHeld ?_
        rotate_left
        · intro w' hSw
          go_simp <;> with_reducible rfl
        try simp only [Act.put, List.setIfInBounds_toArray, List.set_cons_zero, List.set_cons_succ]
        refine wpXs 7 rfl (by kernel_rfl) (fun K hK => ?_)
        go_simp
        refine HC1.mono ?_
        clear HC1
        rintro e w6 ⟨rfl, hb6⟩
        have HB6 : Hid (Below W5.heap.size W5 w6) := ((Below.refl _ _).drew).trans hb6
        clear hb6
        refine hK.out _ _ (HSF.out _ HB6.out) (fun hHeld => ?_)
        clear hK K
        try simp only [Act.put, List.setIfInBounds_toArray, List.set_cons_zero, List.set_cons_succ]
        refine wpXs 15 rfl (by kernel_rfl) (fun K hK => ?_)
        go_simp
        refine (made_any seed op j (.slice (some ⟨b8, off8, none⟩) no co) (.slice asp nsp csp) read ar nr cr x w6 HRD.out.2 ((HRD5.out).below HB6.out fun _ _ h => h) HX.out).mono ?_
        rintro e w7 ⟨rfl, hb7⟩
        have HB7 : Hid (Below W5.heap.size W5 w7) := HB6.out.trans (hb7.mono HB6.out.size)
        have HK7 : Hid (MwS wb X G fr h s left ve w7) := HK5.out.below HB7.out
        clear hb7
        obtain ⟨p1, p2, p3⟩ := HK7.out.get HPO.out
        refine hK.out _ _ (HSF.out _ HB7.out) (fun hHeld => ?_)
        clear hK K
        try simp only [Act.put, List.setIfInBounds_toArray, List.set_cons_zero, List.set_cons_succ]
        refine wpXs 16 rfl (by kernel_rfl) (fun K hK => ?_)
        go_simp
        refine hK.out _ _ (HSF.out _ HB7.out) (fun hHeld => ?_)
        clear hK K
        try simp only [Act.put, List.setIfInBounds_toArray, List.set_cons_zero, List.set_cons_succ]
        refine wpXl 17 rfl (by kernel_rfl) rfl (by kernel_rfl) (fun K hK => ?_)
        go_simp
        refine hK.out _ _ ?_
        clear hK K

        have HR3 : Hid (MwS wb X G fr h (makesP seed op read 0 ((os.zip ps).take (j + 1)) s0) left ve (w7.setCell ⟨adB X G p, adO p, none⟩ (.int .i64 x)) ∧ Kp X G W (w7.setCell ⟨adB X G p, adO p, none⟩ (.int .i64 x))) := by
          rw [HE.out]
          exact ⟨HK7.out.put HPO.out _, (HQ5.out.trans (Kp.below HB7.out)).trans (Kp.set (adB_or X G p))⟩
        clear p1 p2 p3 HK7 HB7 HB6 HK5 HSF
        go_wp2
        go_roundw
        case rel => exact ⟨j + 1, by omega, by go_num, HR3⟩
        case measure => simp [intOf]; omega
      · have q : (okd == 2) = false := by simp [hk1]
        have HR3 : Hid (MwS wb X G fr h (makesP seed op read 0 ((os.zip ps).take (j + 1)) s0) left ve W5 ∧ Kp X G W W5) := by
          have h1 := HT.out
          rw [if_neg hk1] at h1
          rw [h1]
          exact ⟨HK5.out, HQ5.out⟩
        rw [hW5] at HR3
        clear hW5 hM hk1 HI HT HK5 HQ5 HW5 HMM m0 lM b5
        go_wp2
        go_roundw
        case rel => exact ⟨j + 1, by omega, by go_num, HR3⟩
        case measure => simp [intOf]; omega
    · have HE : Hid (MwS wb X G fr h (makesP seed op read 0 (os.zip ps) s0) left ve wr ∧ Kp X G w wr) := by
        have h1 := HI.out.1
        rw [List.take_of_length_le (by rw [List.length_zip]; have := HOS.out.2; omega)] at h1
        exact ⟨h1, HWK.out.trans HI.out.2⟩
      clear HI
      go_wp2
      go_end0
      exact ⟨rfl, HE.out⟩
end Go.Proofs.Ytjbjnndmpheedaa
