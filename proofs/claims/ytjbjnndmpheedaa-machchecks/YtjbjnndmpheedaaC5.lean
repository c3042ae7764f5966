/-
  The contracts of the reference's 'MachineFault' and 'ShapeFault' (P1.2 to P1.9).
-/
import Derived.Test.YtjbjnndmpheedaaC3
import Derived.Test.YtjbjnndmpheedaaC4
import Derived.Test.YtjbjnndmpheedaaA4
import Derived.Deep.DeepCutAuto
import Derived.Deep.CutBlock
namespace Go.Proofs.Ytjbjnndmpheedaa
open Go.RowKit
set_option linter.unusedVariables false

theorem in_any' (n lo hi : Int) (w : World) : Calls Try.prog 22 #[.int .i64 n, .int .i64 lo, .int .i64 hi] w fun e w' => e = .returned (.bool (inB n lo hi)) ∧ w' = w := in_is n lo hi _ rfl w
theorem machineFault_any (x y : Int) (w : World) :
    Calls Try.prog 54 #[.agg #[.int .i64 x, .int .i64 y]] w fun e w' => e = .returned (.int .i64 (machErr x y)) ∧ Below w.heap.size w w' := by
  have hb : Below w.heap.size w (w.alloc (.cells #[.int .i64 x, .int .i64 y] 28)) := (Below.refl _ _).alloc (Nat.le_refl _) _
  by_cases hx : 2 ≤ x ∧ x ≤ 10
  · by_cases hy : 2 ≤ y ∧ y ≤ 10
    · have E : Hid (0 = machErr x y) := by show 0 = machErr x y; unfold machErr; rw [if_pos (by omega)]
      have X : inB x 2 10 = true := by unfold inB; simp; omega
      have Y : inB y 2 10 = true := by unfold inB; simp; omega
      clear hx hy
      go_enter Try.func54, Try.ntmps54
      go_wp2
      refine wp_loop_rounds 3 ?_
      rw [rounds_succ]
      go_wp2_with (go_at_call 22; refine (in_any' _ _ _ _).mono ?_; rintro e w' ⟨rfl, rfl⟩)
      rw [rounds_succ]
      go_wp2_with (go_at_call 22; refine (in_any' _ _ _ _).mono ?_; rintro e w' ⟨rfl, rfl⟩)
      rw [rounds_succ]
      go_wp2
      go_ret
      exact ⟨ret_int E.out, hb⟩
    · have E : Hid (2 = machErr x y) := by show 2 = machErr x y; unfold machErr; rw [if_neg (by omega)]
      have X : inB x 2 10 = true := by unfold inB; simp; omega
      have Y : inB y 2 10 = false := by unfold inB; simp; omega
      clear hx hy
      go_enter Try.func54, Try.ntmps54
      go_wp2
      refine wp_loop_rounds 3 ?_
      rw [rounds_succ]
      go_wp2_with (go_at_call 22; refine (in_any' _ _ _ _).mono ?_; rintro e w' ⟨rfl, rfl⟩)
      rw [rounds_succ]
      go_wp2_with (go_at_call 22; refine (in_any' _ _ _ _).mono ?_; rintro e w' ⟨rfl, rfl⟩)
      go_ret
      exact ⟨ret_int E.out, hb⟩
  · have E : Hid (2 = machErr x y) := by show 2 = machErr x y; unfold machErr; rw [if_neg (by omega)]
    have X : inB x 2 10 = false := by unfold inB; simp; omega
    clear hx
    go_enter Try.func54, Try.ntmps54
    go_wp2
    refine wp_loop_rounds 3 ?_
    rw [rounds_succ]
    go_wp2_with (go_at_call 22; refine (in_any' _ _ _ _).mono ?_; rintro e w' ⟨rfl, rfl⟩)
    go_ret
    exact ⟨ret_int E.out, hb⟩

theorem machineFault_is (x y r : Int) (h : machErr x y = r) (w : World) :
    Calls Try.prog 54 #[.agg #[.int .i64 x, .int .i64 y]] w fun e w' => e = .returned (.int .i64 r) ∧ Below w.heap.size w w' := by
  rw [← h]; exact machineFault_any x y w

theorem markS_fold (i : Nat) : ∀ (l : List Int) (md : Nat → Bool), (l.foldl markS md) i = (md i || l.any (fun u => u.toNat == i))
  | [], md => by simp
  | u :: r, md => by
    rw [List.foldl_cons, markS_fold i r]
    unfold markS
    by_cases h : i = u.toNat
    · simp [h]
    · have h' : (u.toNat == i) = false := beq_eq_false_iff_ne.2 fun e => h e.symm
      rw [if_neg h, List.any_cons, h', Bool.false_or]
theorem md_has (n : Nat) (v : Int) (hv : isValueB n v = true) (l : List Int) (hl : ∀ u ∈ l, isValueB n u = true) : (l.foldl markS (fun _ => false)) v.toNat = hasI l v := by
  rw [markS_fold, Bool.false_or, hasI, Bool.eq_iff_iff, List.any_eq_true, List.any_eq_true]
  simp only [isValueB, decide_eq_true_eq] at hv hl
  constructor
  · rintro ⟨u, hu, he⟩
    have := hl u hu
    exact ⟨u, hu, by simp at he ⊢; omega⟩
  · rintro ⟨u, hu, he⟩
    exact ⟨u, hu, by simp at he ⊢; omega⟩
theorem has_at (l : List Int) (m : Nat) (hm : l.length = m) (al : Option Addr) (cl : Nat) (n : Int) (b : Bool) (hb : hasI l n = b) (w : World) (hl : SlOf w 1 RInt (.slice al m cl) l) :
    Calls Try.prog 60 #[.slice al m cl, .int .i64 n] w fun e w' => e = .returned (.bool b) ∧ Below w.heap.size w w' := by
  subst hm
  exact has_is l al cl n b hb w hl
theorem SlOf.takeI {w : World} {b off n cap : Nat} {l : List Int} (h : SlOf w 1 RInt (.slice (some ⟨b, off, none⟩) n cap) l) (i : Nat) (hi : i ≤ l.length) : SlOf w 1 RInt (.slice (some ⟨b, off, none⟩) i cap) (l.take i) := by
  have hlen : (l.take i).length = i := by simp; omega
  obtain ⟨a, cap', hv, hl, h2⟩ := id h
  refine ⟨some ⟨b, off, none⟩, cap, by rw [hlen], by omega, ?_⟩
  by_cases h0 : l.take i = []
  · exact Or.inl h0
  right
  refine ⟨b, off, rfl, fun j hj => ?_⟩
  have hj' : j < l.length := by omega
  obtain ⟨b', off', cs, e1, e2, e3, e4⟩ := h.at j hj'
  simp only [Option.some.injEq, Addr.mk.injEq] at e1
  obtain ⟨rfl, rfl, _⟩ := e1
  exact ⟨cs, e2, by rw [List.getElem_take]; exact e3, e4⟩
theorem own_slR {w : World} {base : Nat} {v : Value} {l : List Int} (h : w.ownsRow base 3 1 v l.length (intsV l)) (hs : l.length ≤ longest) : ∃ a cap, v = .slice a l.length cap ∧ l.length ≤ cap ∧ SlOf w 1 RInt v l := by
  obtain ⟨hlen, h⟩ := h
  rcases h with ⟨rfl, h0⟩ | ⟨g, cap, cur, rfl, hb, hg, hnc, hc, hcs, htake⟩
  · have e : l = [] := by cases l <;> simp_all
    subst e
    exact ⟨none, 0, rfl, by simp, none, 0, rfl, hs, Or.inl rfl⟩
  · refine ⟨some ⟨g, 0, none⟩, cap, rfl, by omega, some ⟨g, 0, none⟩, cap, rfl, hs, Or.inr ⟨g, 0, rfl, fun i hi => ⟨[.int .i64 l[i]], rfl, rfl, fun j hj => ?_⟩⟩⟩
    have hj0 : j = 0 := by simpa using hj
    subst hj0
    have h1 : (intsV l)[i]? = some (.int .i64 l[i]) := by simp [intsV, List.getElem?_eq_getElem hi]
    rw [← htake, List.getElem?_take, if_pos (by simp [intsV] at hlen; omega)] at h1
    simp only [World.cell?, hg]
    simpa using h1

set_option maxRecDepth 8000 in
set_option maxHeartbeats 16000000 in
theorem shapeFault_is (f : Fn) (av : Option Addr) (cv : Nat) (ab : Option Addr) (cb : Nat) (m0 m1 : Int) (w : World) (res : Int) (hres : shapeErr f m0 m1 = res) (hv : SlOf w 1 RInt (.slice av f.values.length cv) f.values) (hbl : SlOf w 3 (RBlk w) (.slice ab f.blocks.length cb) f.blocks) :
    Calls Try.prog 37 #[.agg #[.slice av f.values.length cv, .slice ab f.blocks.length cb], .agg #[.int .i64 m0, .int .i64 m1]] w fun e w' => e = .returned (.int .i64 res) ∧ Below w.heap.size w w' := by
  obtain ⟨_, _, _, lv⟩ := hv.out
  have lv0 := lv
  obtain ⟨_, _, _, lb⟩ := hbl.out
  unfold longest at lv lb
  obtain ⟨W, hW⟩ : ∃ W, W = (w.alloc (.cells #[.slice av f.values.length cv, .slice ab f.blocks.length cb] 25)).alloc (.cells #[.int .i64 m0, .int .i64 m1] 28) := ⟨_, rfl⟩
  have hbw : Below w.heap.size w W := by rw [hW]; exact ((Below.refl _ _).alloc (Nat.le_refl _) _).alloc (by simp) _
  have zW : w.heap.size + 1 < W.heap.size := by rw [hW]; simp
  obtain ⟨t0, t1⟩ := two_at w #[.slice av f.values.length cv, .slice ab f.blocks.length cb] #[.int .i64 m0, .int .i64 m1] 25 28
  have f0_0 : W.cell? ⟨w.heap.size, 0, none⟩ = some (.slice av f.values.length cv) := by rw [hW]; exact t0 0
  have f0_1 : W.cell? ⟨w.heap.size, 1, none⟩ = some (.slice ab f.blocks.length cb) := by rw [hW]; exact t0 1
  have m1_0 : W.cell? ⟨w.heap.size + 1, 0, none⟩ = some (.int .i64 m0) := by rw [hW]; exact t1 0
  have m1_1 : W.cell? ⟨w.heap.size + 1, 1, none⟩ = some (.int .i64 m1) := by rw [hW]; exact t1 1
  have HS : Hid (∀ w', Below W.heap.size W w' → (fun w' => w'.cell? ⟨w.heap.size, 0, none⟩ = some (.slice av f.values.length cv) ∧ w'.cell? ⟨w.heap.size, 1, none⟩ = some (.slice ab f.blocks.length cb) ∧ w'.cell? ⟨w.heap.size + 1, 0, none⟩ = some (.int .i64 m0) ∧ w'.cell? ⟨w.heap.size + 1, 1, none⟩ = some (.int .i64 m1) ∧ Below W.heap.size W w') w') := fun w' hh => ⟨(hh.cell (by simp; omega)).trans f0_0, (hh.cell (by simp; omega)).trans f0_1, (hh.cell (by simp; omega)).trans m1_0, (hh.cell (by simp; omega)).trans m1_1, hh⟩
  have HW : Hid (W = (w.alloc (.cells #[.slice av f.values.length cv, .slice ab f.blocks.length cb] 25)).alloc (.cells #[.int .i64 m0, .int .i64 m1] 28)) := hW
  clear hW t0 t1
  have HRES : Hid (shapeErr f m0 m1 = res) := hres
  clear hres
  obtain ⟨em, hem⟩ : ∃ em, machErr m0 m1 = em := ⟨_, rfl⟩
  have HEM : Hid (machErr m0 m1 = em) := hem
  clear hem
  go_enter Try.func37, Try.ntmps37
  go_upto_region 1 with fail
  rw [← HW.out]
  go_wp2_with fail
  refine (machineFault_is _ _ em HEM.out _).mono ?_
  rintro e wa ⟨rfl, hba⟩
  have hbwa : Below w.heap.size w wa := hbw.trans (hba.mono hbw.size)
  obtain ⟨f0_0a, f0_1a, m1_0a, m1_1a, _⟩ := HS.out _ hba
  clear f0_0 f0_1 m1_0 m1_1
  by_cases hm : em = 0
  case neg =>
    have H : Hid (em = res) := by show _ = _; rw [← HRES.out]; unfold shapeErr; rw [HEM.out, if_pos hm]
    have q0 : (em == 0) = false := by simpa using hm
    have q1 : (em != 0) = true := by simpa using hm
    clear hm
    go_wp2
    go_ret
    exact ⟨ret_int H.out, hbwa⟩
  case pos =>
    subst hm
    have hm0 := HEM.out
    have hM : 2 ≤ m0 ∧ m0 ≤ 10 ∧ 2 ≤ m1 ∧ m1 ≤ 10 := by
      unfold machErr at hm0
      by_cases h : 2 ≤ m0 ∧ m0 ≤ 10 ∧ 2 ≤ m1 ∧ m1 ≤ 10
      · exact h
      · rw [if_neg h] at hm0; simp at hm0
    obtain ⟨ha0, ha1, hc0, hc1⟩ := hM
    clear hm0
    obtain ⟨eb, heb⟩ : ∃ eb, (if sizesB f = true then 0 else 1 : Int) = eb := ⟨_, rfl⟩
    have HEB : Hid ((if sizesB f = true then 0 else 1 : Int) = eb) := heb
    clear heb
    go_wp2_with fail
    refine (bigFault_is f _ _ _ _ _ eb HEB.out (hv.below hbwa fun _ _ h => h) (hbl.below hbwa (RBlk.below hbwa))).mono ?_
    rintro e wb ⟨rfl, hbb0⟩
    have hbb : Below W.heap.size W wb := hba.trans (hbb0.mono hba.size)
    have hbwb : Below w.heap.size w wb := hbw.trans (hbb.mono hbw.size)
    obtain ⟨f0_0b, f0_1b, m1_0b, m1_1b, _⟩ := HS.out _ hbb
    clear f0_0a f0_1a m1_0a m1_1a
    have heb := HEB.out
    cases hs : sizesB f
    case false =>
      rw [hs] at heb
      have e1 : eb = 1 := by simpa using heb.symm
      subst e1
      have H : Hid (1 = res) := by show _ = _; rw [← HRES.out]; unfold shapeErr; rw [HEM.out, if_neg (by simp), if_pos hs]
      clear heb
      go_wp2
      go_ret
      exact ⟨ret_int H.out, hbwb⟩
    case true =>
      rw [hs] at heb
      have e1 : eb = 0 := by simpa using heb.symm
      subst e1
      clear heb
      obtain ⟨hnb, hnb16, hnv, hfar⟩ := sizesB_true hs
      have HSZ : Hid (sizesB f = true) := hs
      clear hs
      go_wp2
      go_loop [6] (fun t => ∃ k : Nat, k ≤ f.values.length ∧ t = .int .i64 k ∧ Hid ((f.values.take k).all isClassB = true)) (fun t => f.values.length - (intOf t).toNat)
      case atStart => exact ⟨0, Nat.zero_le _, rfl, rfl⟩
      case round =>
        obtain ⟨k, hk, rfl, HA⟩ := hrel
        by_cases hlt : k < f.values.length
        · obtain ⟨bv, offv, rfl, hbv, a0⟩ := int_cell (hv.below hbwb fun _ _ h => h) k hlt
          have hic : inB f.values[k] 0 1 = isClassB f.values[k] := by rw [Bool.eq_iff_iff]; simp [inB, isClassB]; omega
          cases hcl : isClassB f.values[k]
          · rw [hcl] at hic
            have H : Hid (17 = res) := by show _ = _; rw [← HRES.out]; unfold shapeErr; rw [HEM.out, if_neg (by simp), if_neg (by simp [HSZ.out]), if_pos (all_not _ _ _ hlt hcl)]
            clear HA hcl
            go_wp2_with fail
            refine (in_is _ _ _ _ hic _).mono ?_
            rintro e wb ⟨rfl, rfl⟩
            go_wp2
            go_ret
            exact ⟨ret_int H.out, hbwb⟩
          · rw [hcl] at hic
            have H : Hid ((f.values.take (k + 1)).all isClassB = true) := all_snoc _ _ _ hlt HA.out hcl
            clear HA hcl
            go_wp2_with fail
            refine (in_is _ _ _ _ hic _).mono ?_
            rintro e wb ⟨rfl, rfl⟩
            go_wp2
            go_round
            case rel => exact ⟨k + 1, by omega, by go_num, H⟩
            case measure => simp [intOf]; omega
        · have HCL : Hid (f.values.all isClassB = true) := all_done _ _ k (by omega) HA.out
          have HCLS : Hid (∀ v, isValueB f.values.length v = true → classAt f.values v = 0 ∨ classAt f.values v = 1) := classes_of HCL.out
          clear HA
          obtain ⟨b3, off3, cs, rfl, hcl3, ⟨vp, vi, ve, rfl, hp, _, _⟩, hc⟩ := (hbl.below hbwb (RBlk.below hbwb)).at 0 hnb
          obtain ⟨ap, cp, rfl, lp⟩ := hp.out
          have c0 := hc 0 (by simp)
          simp at c0
          have efp : firstParams f = f.blocks[0].params.length := firstParams_eq f hnb
          clear hc hcl3
          have nb0 : (0 : Int) < (f.blocks.length : Int) := by omega
          by_cases hp0 : 0 < firstParams f
          · have H : Hid (4 = res) := by show _ = _; rw [← HRES.out]; unfold shapeErr; rw [HEM.out, if_neg (by simp), if_neg (by simp [HSZ.out]), if_neg (by simp [HCL.out]), if_pos hp0]
            have g0 : (0 : Int) < (f.blocks[0].params.length : Int) := by omega
            clear efp
            go_wp2
            go_ret
            exact ⟨ret_int H.out, hbwb⟩
          · have g0 : ¬ (0 : Int) < (f.blocks[0].params.length : Int) := by omega
            clear efp
            go_wp2
            clear c0
            have HSE : Hid (∀ e, firstE (blockErr f.values f.blocks m0 m1) f.blocks = e → ¬ e = 0 → e = res) := fun e he h0 => by
              rw [← HRES.out]; unfold shapeErr; rw [HEM.out, if_neg (by simp), if_neg (by simp [HSZ.out]), if_neg (by simp [HCL.out]), if_neg hp0, he, if_pos h0]
            have HSM : Hid (firstE (blockErr f.values f.blocks m0 m1) f.blocks = 0 → madeErr f.values f.blocks = res) := fun he => by
              rw [← HRES.out]; unfold shapeErr; rw [HEM.out, if_neg (by simp), if_neg (by simp [HSZ.out]), if_neg (by simp [HCL.out]), if_neg hp0, he, if_neg (by simp)]
            go_loopw [7] (fun t wr => ∃ k : Nat, k ≤ f.blocks.length ∧ t = .int .i64 k ∧ Below W.heap.size W wr ∧ Hid (firstE (blockErr f.values f.blocks m0 m1) (f.blocks.drop k) = firstE (blockErr f.values f.blocks m0 m1) f.blocks)) (fun t _ => f.blocks.length - (intOf t).toNat)
            case atStart => exact ⟨0, Nat.zero_le _, rfl, hbb, rfl⟩
            case round =>
              clear f0_0b f0_1b m1_0b m1_1b hlt hp lp g0
              obtain ⟨i, hi, rfl, hbo, HK⟩ := hrel
              obtain ⟨wo, hwo⟩ : ∃ wo, wo = wr := ⟨_, rfl⟩
              subst hwo
              have hbwo : Below w.heap.size w wo := hbw.trans (hbo.mono hbw.size)
              have zo := hbo.size
              obtain ⟨f0_0o, f0_1o, m1_0o, m1_1o, _⟩ := HS.out _ hbo
              by_cases hlt : i < f.blocks.length
              · obtain ⟨b4, off4, cs, hab, hcl, ⟨vp, vi, ve, rfl, hp, hii, hee⟩, hc⟩ := (hbl.below hbwo (RBlk.below hbwo)).at i hlt
                simp only [Option.some.injEq, Addr.mk.injEq] at hab
                obtain ⟨rfl, rfl, _⟩ := hab
                obtain ⟨ap, cp, rfl, lp⟩ := hp.out
                obtain ⟨ai, ci, rfl, li⟩ := hii.out
                obtain ⟨ae, ce, rfl, le⟩ := hee.out
                unfold longest at lp li le
                have c0 := hc 0 (by simp)
                have c1 := hc 1 (by simp)
                have c2 := hc 2 (by simp)
                simp at c0 c1 c2
                clear hc hcl hp
                have HBERR : Hid (∀ er, blockErr f.values f.blocks m0 m1 f.blocks[i] = er → ¬ er = 0 → er = res) := fun er he h0 => HSE.out er (HK.out.symm.trans ((firstE_drop1 _ _ _ hlt (by rw [he]; exact h0)).trans he)) h0
                have HBOK : Hid (blockErr f.values f.blocks m0 m1 f.blocks[i] = 0 → firstE (blockErr f.values f.blocks m0 m1) (f.blocks.drop (i + 1)) = firstE (blockErr f.values f.blocks m0 m1) f.blocks) := fun he => (firstE_drop0 _ _ _ hlt he).trans HK.out
                clear HK
                generalize f.blocks[i] = b at *
                obtain ⟨W1, hW1⟩ : ∃ W1, W1 = wo.alloc (.cells #[.slice ap b.params.length cp, .slice ai b.instrs.length ci, .slice ae b.edges.length ce] 75) := ⟨_, rfl⟩
                have hb1 : Below wo.heap.size wo W1 := by rw [hW1]; exact (Below.refl _ _).alloc (Nat.le_refl _) _
                have z1 : wo.heap.size < W1.heap.size := by rw [hW1]; simp
                have t1 := top_at wo #[.slice ap b.params.length cp, .slice ai b.instrs.length ci, .slice ae b.edges.length ce] 75
                have d0 : W1.cell? ⟨wo.heap.size, 0, none⟩ = some (.slice ap b.params.length cp) := by rw [hW1]; exact t1 0
                have d1 : W1.cell? ⟨wo.heap.size, 1, none⟩ = some (.slice ai b.instrs.length ci) := by rw [hW1]; exact t1 1
                have d2 : W1.cell? ⟨wo.heap.size, 2, none⟩ = some (.slice ae b.edges.length ce) := by rw [hW1]; exact t1 2
                have hbW1 : Below W.heap.size W W1 := hbo.trans (hb1.mono hbo.size)
                have hbw1 : Below w.heap.size w W1 := hbw.trans (hbW1.mono hbw.size)
                obtain ⟨f0_0, f0_1, m1_0, m1_1, _⟩ := HS.out _ hbW1
                have zw1 := hbW1.size
                have HS1 : Hid (∀ w', Below W1.heap.size W1 w' → (fun w' => w'.cell? ⟨w.heap.size, 0, none⟩ = some (.slice av f.values.length cv) ∧ w'.cell? ⟨w.heap.size, 1, none⟩ = some (.slice (some ⟨b3, off3, none⟩) f.blocks.length cb) ∧ w'.cell? ⟨w.heap.size + 1, 0, none⟩ = some (.int .i64 m0) ∧ w'.cell? ⟨w.heap.size + 1, 1, none⟩ = some (.int .i64 m1) ∧ w'.cell? ⟨wo.heap.size, 0, none⟩ = some (.slice ap b.params.length cp) ∧ w'.cell? ⟨wo.heap.size, 1, none⟩ = some (.slice ai b.instrs.length ci) ∧ w'.cell? ⟨wo.heap.size, 2, none⟩ = some (.slice ae b.edges.length ce) ∧ Below W1.heap.size W1 w') w') := fun w' hh => ⟨(hh.cell (by simp; omega)).trans f0_0, (hh.cell (by simp; omega)).trans f0_1, (hh.cell (by simp; omega)).trans m1_0, (hh.cell (by simp; omega)).trans m1_1, (hh.cell (by simp; omega)).trans d0, (hh.cell (by simp; omega)).trans d1, (hh.cell (by simp; omega)).trans d2, hh⟩
                have hi1 := hii.below hb1 (RIns.below hb1)
                have he1 := hee.below hb1 (REdg.below hb1)
                have HI1 : Hid (∀ w', Below W1.heap.size W1 w' → SlOf w' 3 (RIns w') (.slice ai b.instrs.length ci) b.instrs) := fun w' hh => hi1.below hh (RIns.below hh)
                have HE1 : Hid (∀ w', Below W1.heap.size W1 w' → SlOf w' 2 (REdg w') (.slice ae b.edges.length ce) b.edges) := fun w' hh => he1.below hh (REdg.below hh)
                have HW1 : Hid (W1 = wo.alloc (.cells #[.slice ap b.params.length cp, .slice ai b.instrs.length ci, .slice ae b.edges.length ce] 75)) := hW1
                clear hW1 t1 hii hee hi1 he1
                go_upto_region 17 with fail
                rw [← HW1.out]
                clear c0 c1 c2 f0_0o f0_1o m1_0o m1_1o
                go_wp2
                clear f0_0 f0_1 m1_0 m1_1 d0 d1 d2
                go_loopw [9] (fun t wr => ∃ q : Nat, q ≤ b.instrs.length ∧ t = .int .i64 q ∧ Below W1.heap.size W1 wr ∧ Hid (firstE (instrErr f.values m0 m1) (b.instrs.drop q) = firstE (instrErr f.values m0 m1) b.instrs)) (fun t _ => b.instrs.length - (intOf t).toNat)
                case atStart => exact ⟨0, Nat.zero_le _, rfl, Below.refl _ _, rfl⟩
                case round =>
                  obtain ⟨q, hq, rfl, hbr1, HQ⟩ := hrel
                  have hbwr : Below w.heap.size w wr := hbw1.trans (hbr1.mono hbw1.size)
                  have zr := hbr1.size
                  obtain ⟨f0_0', f0_1', m1_0', m1_1', d0', d1', d2', _⟩ := HS1.out _ hbr1
                  by_cases hltq : q < b.instrs.length
                  · obtain ⟨b7, off7, cs, rfl, hcl7, ⟨vo, vs, rfl, ho7, hs7⟩, hc7⟩ := (HI1.out _ hbr1).at q hltq
                    obtain ⟨ao, co, rfl, lo⟩ := ho7.out
                    obtain ⟨asp, csp, rfl, lsp⟩ := hs7.out
                    have x0 := hc7 0 (by simp)
                    have x1 := hc7 1 (by simp)
                    have x2 := hc7 2 (by simp)
                    simp at x0 x1 x2
                    have hb7 := block_lt x0
                    clear hc7 hcl7
                    obtain ⟨er, her⟩ : ∃ er, instrErr f.values m0 m1 b.instrs[q] = er := ⟨_, rfl⟩
                    have HER : Hid (instrErr f.values m0 m1 b.instrs[q] = er) := her
                    clear her
                    have hbd : Below wr.heap.size wr wr.drew := (Below.refl _ _).drew
                    have HSk : Hid (∀ w', Below wr.heap.size wr w' → (fun w' => w'.cell? ⟨w.heap.size, 0, none⟩ = some (.slice av f.values.length cv) ∧ w'.cell? ⟨w.heap.size, 1, none⟩ = some (.slice (some ⟨b3, off3, none⟩) f.blocks.length cb) ∧ w'.cell? ⟨w.heap.size + 1, 0, none⟩ = some (.int .i64 m0) ∧ w'.cell? ⟨w.heap.size + 1, 1, none⟩ = some (.int .i64 m1) ∧ w'.cell? ⟨wo.heap.size, 0, none⟩ = some (.slice ap b.params.length cp) ∧ w'.cell? ⟨wo.heap.size, 1, none⟩ = some (.slice (some ⟨b7, off7, none⟩) b.instrs.length ci) ∧ w'.cell? ⟨wo.heap.size, 2, none⟩ = some (.slice ae b.edges.length ce) ∧ w'.cell? ⟨b7, off7 + q * 3, none⟩ = some (.int .i64 b.instrs[q].op) ∧ w'.cell? ⟨b7, off7 + q * 3 + 1, none⟩ = some (.slice ao b.instrs[q].operands.length co) ∧ w'.cell? ⟨b7, off7 + q * 3 + 2, none⟩ = some (.slice asp b.instrs[q].spoils.length csp) ∧ Below wr.heap.size wr w') w') := fun w' hh => ⟨(hh.cell (by simp; omega)).trans f0_0', (hh.cell (by simp; omega)).trans f0_1', (hh.cell (by simp; omega)).trans m1_0', (hh.cell (by simp; omega)).trans m1_1', (hh.cell (by simp; omega)).trans d0', (hh.cell (by simp; omega)).trans d1', (hh.cell (by simp; omega)).trans d2', (hh.cell (by simp; omega)).trans x0, (hh.cell (by simp; omega)).trans x1, (hh.cell (by simp; omega)).trans x2, hh⟩
                    go_upto_region 20 with fail
                    refine wp_region_X (fun w' => w'.cell? ⟨w.heap.size, 0, none⟩ = some (.slice av f.values.length cv) ∧ w'.cell? ⟨w.heap.size, 1, none⟩ = some (.slice (some ⟨b3, off3, none⟩) f.blocks.length cb) ∧ w'.cell? ⟨w.heap.size + 1, 0, none⟩ = some (.int .i64 m0) ∧ w'.cell? ⟨w.heap.size + 1, 1, none⟩ = some (.int .i64 m1) ∧ w'.cell? ⟨wo.heap.size, 0, none⟩ = some (.slice ap b.params.length cp) ∧ w'.cell? ⟨wo.heap.size, 1, none⟩ = some (.slice (some ⟨b7, off7, none⟩) b.instrs.length ci) ∧ w'.cell? ⟨wo.heap.size, 2, none⟩ = some (.slice ae b.edges.length ce) ∧ w'.cell? ⟨b7, off7 + q * 3, none⟩ = some (.int .i64 b.instrs[q].op) ∧ w'.cell? ⟨b7, off7 + q * 3 + 1, none⟩ = some (.slice ao b.instrs[q].operands.length co) ∧ w'.cell? ⟨b7, off7 + q * 3 + 2, none⟩ = some (.slice asp b.instrs[q].spoils.length csp) ∧ Below wr.heap.size wr w') 99 (by kernel_rfl) (HSk.out _ hbd) (fun hHeld => ?_)
                    refine wpXt 0 rfl (v := ?_) (by kernel_rfl) (fun _ _ _ h => h) (by rfl) ?_ hHeld ?_
                    rotate_left
                    · intro w' hSw
                      go_simp <;> with_reducible rfl
                    try simp only [Act.put, List.setIfInBounds_toArray, List.set_cons_zero, List.set_cons_succ]
                    refine wpXt 1 rfl (v := ?_) (by kernel_rfl) (fun _ _ _ h => h) (by rfl) ?_ hHeld ?_
                    rotate_left
                    · intro w' hSw
                      go_simp <;> with_reducible rfl
                    try simp only [Act.put, List.setIfInBounds_toArray, List.set_cons_zero, List.set_cons_succ]
                    refine wpXt 2 rfl (v := ?_) (by kernel_rfl) (fun _ _ _ h => h) (by rfl) ?_ hHeld ?_
                    rotate_left
                    · intro w' hSw
                      go_simp <;> with_reducible rfl
                    try simp only [Act.put, List.setIfInBounds_toArray, List.set_cons_zero, List.set_cons_succ]
                    refine wpXt 3 rfl (v := ?_) (by kernel_rfl) (fun _ _ _ h => h) (by rfl) ?_ hHeld ?_
                    rotate_left
                    · intro w' hSw
                      go_simp <;> with_reducible rfl
                    try simp only [Act.put, List.setIfInBounds_toArray, List.set_cons_zero, List.set_cons_succ]
                    refine wpXt 4 rfl (v := ?_) (by kernel_rfl) (fun _ _ _ h => h) (by rfl) ?_ hHeld ?_
                    rotate_left
                    · intro w' hSw
                      go_simp <;> with_reducible rfl
                    try simp only [Act.put, List.setIfInBounds_toArray, List.set_cons_zero, List.set_cons_succ]
                    refine wpXt 5 rfl (v := ?_) (by kernel_rfl) (fun _ _ _ h => h) (by rfl) ?_ hHeld ?_
                    rotate_left
                    · intro w' hSw
                      go_simp <;> with_reducible rfl
                    try simp only [Act.put, List.setIfInBounds_toArray, List.set_cons_zero, List.set_cons_succ]
                    refine wpXt 6 rfl (v := ?_) (by kernel_rfl) (fun _ _ _ h => h) (by rfl) ?_ hHeld ?_
                    rotate_left
                    · intro w' hSw
                      go_simp <;> with_reducible rfl
                    try simp only [Act.put, List.setIfInBounds_toArray, List.set_cons_zero, List.set_cons_succ]
                    refine wpXs 7 rfl (by kernel_rfl) (fun K hK => ?_)
                    go_simp
                    refine (instrFault_is f.values _ _ _ _ _ b.instrs[q] _ _ _ _ er HER.out _ (hv.below (hbwr.trans (hbd.mono hbwr.size)) fun _ _ h => h) (ho7.below hbd fun _ _ h => h) (hs7.below hbd fun _ _ h => h) HCLS.out ⟨ha0, ha1⟩ ⟨hc0, hc1⟩).mono ?_
                    rintro e wn ⟨rfl, hbn0⟩
                    have hbn : Below wr.heap.size wr wn := hbd.trans (hbn0.mono hbd.size)
                    refine hK.out _ _ (HSk.out _ hbn) (fun hHeld => ?_)
                    clear hK K
                    try simp only [Act.put, List.setIfInBounds_toArray, List.set_cons_zero, List.set_cons_succ]
                    refine wpXs 8 rfl (by kernel_rfl) (fun K hK => ?_)
                    go_simp
                    refine hK.out _ _ (HSk.out _ hbn) (fun hHeld => ?_)
                    clear hK K
                    try simp only [Act.put, List.setIfInBounds_toArray, List.set_cons_zero, List.set_cons_succ]
                    refine wpAnyX_done (by kernel_rfl) ?_ _
                    have hbWn : Below W1.heap.size W1 wn := hbr1.trans (hbn.mono hbr1.size)
                    by_cases h0 : er = 0
                    · have H : Hid (firstE (instrErr f.values m0 m1) (b.instrs.drop (q + 1)) = firstE (instrErr f.values m0 m1) b.instrs) := (firstE_drop0 _ _ _ hltq (HER.out.trans h0)).trans HQ.out
                      subst h0
                      clear f0_0' f0_1' m1_0' m1_1' d0' d1' d2' x0 x1 x2
                      go_wp2
                      go_roundw
                      case rel => exact ⟨q + 1, by omega, by go_num, hbWn, H⟩
                      case measure => simp [intOf]; omega
                    · have H : Hid (er = res) := HBERR.out er (blockErr_ins _ _ _ _ _ _ (HQ.out.symm.trans ((firstE_drop1 _ _ _ hltq (by rw [HER.out]; exact h0)).trans HER.out)) h0) h0
                      have hne : (er != 0) = true := by simpa using h0
                      clear h0 f0_0' f0_1' m1_0' m1_1' d0' d1' d2' x0 x1 x2
                      go_wp2
                      go_ret
                      exact ⟨ret_int H.out, hbwr.trans (hbn.mono hbwr.size)⟩
                  · have HI0 : Hid (firstE (instrErr f.values m0 m1) b.instrs = 0) := by
                      show _ = _
                      rw [← HQ.out, List.drop_of_length_le (by omega)]
                      rfl
                    clear HQ
                    by_cases hmb : 1 < b.edges.length ∧ b.instrs.length = 0
                    · have H : Hid (4 = res) := HBERR.out 4 (by unfold blockErr; rw [HI0.out, if_neg (by simp), if_pos hmb]) (by omega)
                      have g1 : (1 : Int) < (b.edges.length : Int) := by omega
                      have g2 : ((b.instrs.length : Int) == 0) = true := beq_iff_eq.2 (by omega)
                      clear hmb
                      go_wp2
                      go_ret
                      exact ⟨ret_int H.out, hbwr⟩
                    · have HM : Hid (¬ (1 < b.edges.length ∧ b.instrs.length = 0)) := hmb
                      go_upto_region 23 with fail
                      go_cut [82] (fun v wz => v = .bool false ∧ wz = wr)
                      case first =>
                        by_cases g1 : (1 : Int) < (b.edges.length : Int)
                        · have g2 : ((b.instrs.length : Int) == 0) = false := beq_eq_false_iff_ne.2 (by omega)
                          clear hmb
                          go_wp2
                          go_meet
                          exact ⟨rfl, rfl⟩
                        · clear hmb
                          go_wp2
                          go_meet
                          exact ⟨rfl, rfl⟩
                      case rest =>
                        obtain ⟨rfl, hwc⟩ := hcut
                        subst hwc
                        clear hmb
                        go_wp2
                        clear f0_0' f0_1' m1_0' m1_1' d0' d1' d2'
                        go_loopw [10] (fun t wr => ∃ q : Nat, q ≤ b.edges.length ∧ t = .int .i64 q ∧ Below W1.heap.size W1 wr ∧ Hid (firstE (edgeErr f.values f.blocks) (b.edges.drop q) = firstE (edgeErr f.values f.blocks) b.edges)) (fun t _ => b.edges.length - (intOf t).toNat)
                        case atStart => exact ⟨0, Nat.zero_le _, rfl, hbr1, rfl⟩
                        case round =>
                          clear hbwr hbr1 zr hltq
                          obtain ⟨q, hq2, rfl, hbr1, HQ⟩ := hrel
                          have hbwr : Below w.heap.size w wr := hbw1.trans (hbr1.mono hbw1.size)
                          have zr := hbr1.size
                          obtain ⟨f0_0', f0_1', m1_0', m1_1', d0', d1', d2', _⟩ := HS1.out _ hbr1
                          by_cases hltq : q < b.edges.length
                          · obtain ⟨b8, off8, cs, rfl, hcl7, ⟨va, rfl, hg7⟩, hc7⟩ := (HE1.out _ hbr1).at q hltq
                            obtain ⟨aa, ca, rfl, lg⟩ := hg7.out
                            have x0 := hc7 0 (by simp)
                            have x1 := hc7 1 (by simp)
                            simp at x0 x1
                            have hb8 := block_lt x0
                            clear hc7 hcl7
                            obtain ⟨er, her⟩ : ∃ er, edgeErr f.values f.blocks b.edges[q] = er := ⟨_, rfl⟩
                            have HER : Hid (edgeErr f.values f.blocks b.edges[q] = er) := her
                            clear her
                            have hbd : Below wr.heap.size wr wr.drew := (Below.refl _ _).drew
                            have HSk : Hid (∀ w', Below wr.heap.size wr w' → (fun w' => w'.cell? ⟨w.heap.size, 0, none⟩ = some (.slice av f.values.length cv) ∧ w'.cell? ⟨w.heap.size, 1, none⟩ = some (.slice (some ⟨b3, off3, none⟩) f.blocks.length cb) ∧ w'.cell? ⟨w.heap.size + 1, 0, none⟩ = some (.int .i64 m0) ∧ w'.cell? ⟨w.heap.size + 1, 1, none⟩ = some (.int .i64 m1) ∧ w'.cell? ⟨wo.heap.size, 0, none⟩ = some (.slice ap b.params.length cp) ∧ w'.cell? ⟨wo.heap.size, 1, none⟩ = some (.slice ai b.instrs.length ci) ∧ w'.cell? ⟨wo.heap.size, 2, none⟩ = some (.slice (some ⟨b8, off8, none⟩) b.edges.length ce) ∧ w'.cell? ⟨b8, off8 + q * 2, none⟩ = some (.int .i64 b.edges[q].block) ∧ w'.cell? ⟨b8, off8 + q * 2 + 1, none⟩ = some (.slice aa b.edges[q].args.length ca) ∧ Below wr.heap.size wr w') w') := fun w' hh => ⟨(hh.cell (by simp; omega)).trans f0_0', (hh.cell (by simp; omega)).trans f0_1', (hh.cell (by simp; omega)).trans m1_0', (hh.cell (by simp; omega)).trans m1_1', (hh.cell (by simp; omega)).trans d0', (hh.cell (by simp; omega)).trans d1', (hh.cell (by simp; omega)).trans d2', (hh.cell (by simp; omega)).trans x0, (hh.cell (by simp; omega)).trans x1, hh⟩
                            go_upto_region 28 with fail
                            refine wp_region_X (fun w' => w'.cell? ⟨w.heap.size, 0, none⟩ = some (.slice av f.values.length cv) ∧ w'.cell? ⟨w.heap.size, 1, none⟩ = some (.slice (some ⟨b3, off3, none⟩) f.blocks.length cb) ∧ w'.cell? ⟨w.heap.size + 1, 0, none⟩ = some (.int .i64 m0) ∧ w'.cell? ⟨w.heap.size + 1, 1, none⟩ = some (.int .i64 m1) ∧ w'.cell? ⟨wo.heap.size, 0, none⟩ = some (.slice ap b.params.length cp) ∧ w'.cell? ⟨wo.heap.size, 1, none⟩ = some (.slice ai b.instrs.length ci) ∧ w'.cell? ⟨wo.heap.size, 2, none⟩ = some (.slice (some ⟨b8, off8, none⟩) b.edges.length ce) ∧ w'.cell? ⟨b8, off8 + q * 2, none⟩ = some (.int .i64 b.edges[q].block) ∧ w'.cell? ⟨b8, off8 + q * 2 + 1, none⟩ = some (.slice aa b.edges[q].args.length ca) ∧ Below wr.heap.size wr w') 99 (by kernel_rfl) (HSk.out _ hbd) (fun hHeld => ?_)
                            refine wpXt 0 rfl (v := ?_) (by kernel_rfl) (fun _ _ _ h => h) (by rfl) ?_ hHeld ?_
                            rotate_left
                            · intro w' hSw
                              go_simp <;> with_reducible rfl
                            try simp only [Act.put, List.setIfInBounds_toArray, List.set_cons_zero, List.set_cons_succ]
                            refine wpXt 1 rfl (v := ?_) (by kernel_rfl) (fun _ _ _ h => h) (by rfl) ?_ hHeld ?_
                            rotate_left
                            · intro w' hSw
                              go_simp <;> with_reducible rfl
                            try simp only [Act.put, List.setIfInBounds_toArray, List.set_cons_zero, List.set_cons_succ]
                            refine wpXt 2 rfl (v := ?_) (by kernel_rfl) (fun _ _ _ h => h) (by rfl) ?_ hHeld ?_
                            rotate_left
                            · intro w' hSw
                              go_simp <;> with_reducible rfl
                            try simp only [Act.put, List.setIfInBounds_toArray, List.set_cons_zero, List.set_cons_succ]
                            refine wpXt 3 rfl (v := ?_) (by kernel_rfl) (fun _ _ _ h => h) (by rfl) ?_ hHeld ?_
                            rotate_left
                            · intro w' hSw
                              go_simp <;> with_reducible rfl
                            try simp only [Act.put, List.setIfInBounds_toArray, List.set_cons_zero, List.set_cons_succ]
                            refine wpXt 4 rfl (v := ?_) (by kernel_rfl) (fun _ _ _ h => h) (by rfl) ?_ hHeld ?_
                            rotate_left
                            · intro w' hSw
                              go_simp <;> with_reducible rfl
                            try simp only [Act.put, List.setIfInBounds_toArray, List.set_cons_zero, List.set_cons_succ]
                            refine wpXt 5 rfl (v := ?_) (by kernel_rfl) (fun _ _ _ h => h) (by rfl) ?_ hHeld ?_
                            rotate_left
                            · intro w' hSw
                              go_simp <;> with_reducible rfl
                            try simp only [Act.put, List.setIfInBounds_toArray, List.set_cons_zero, List.set_cons_succ]
                            refine wpXs 6 rfl (by kernel_rfl) (fun K hK => ?_)
                            go_simp
                            refine (edgeFault_is f.values _ _ f.blocks _ _ b.edges[q] _ _ er HER.out _ (hv.below (hbwr.trans (hbd.mono hbwr.size)) fun _ _ h => h) (hbl.below (hbwr.trans (hbd.mono hbwr.size)) (RBlk.below (hbwr.trans (hbd.mono hbwr.size)))) (hg7.below hbd fun _ _ h => h)).mono ?_
                            rintro e wn ⟨rfl, hbn0⟩
                            have hbn : Below wr.heap.size wr wn := hbd.trans (hbn0.mono hbd.size)
                            refine hK.out _ _ (HSk.out _ hbn) (fun hHeld => ?_)
                            clear hK K
                            try simp only [Act.put, List.setIfInBounds_toArray, List.set_cons_zero, List.set_cons_succ]
                            refine wpXs 7 rfl (by kernel_rfl) (fun K hK => ?_)
                            go_simp
                            refine hK.out _ _ (HSk.out _ hbn) (fun hHeld => ?_)
                            clear hK K
                            try simp only [Act.put, List.setIfInBounds_toArray, List.set_cons_zero, List.set_cons_succ]
                            refine wpAnyX_done (by kernel_rfl) ?_ _
                            have hbWn : Below W1.heap.size W1 wn := hbr1.trans (hbn.mono hbr1.size)
                            by_cases h0 : er = 0
                            · have H : Hid (firstE (edgeErr f.values f.blocks) (b.edges.drop (q + 1)) = firstE (edgeErr f.values f.blocks) b.edges) := (firstE_drop0 _ _ _ hltq (HER.out.trans h0)).trans HQ.out
                              subst h0
                              clear f0_0' f0_1' m1_0' m1_1' d0' d1' d2' x0 x1
                              go_wp2
                              go_roundw
                              case rel => exact ⟨q + 1, by omega, by go_num, hbWn, H⟩
                              case measure => simp [intOf]; omega
                            · have H : Hid (er = res) := HBERR.out er (blockErr_edge _ _ _ _ _ _ HI0.out HM.out (HQ.out.symm.trans ((firstE_drop1 _ _ _ hltq (by rw [HER.out]; exact h0)).trans HER.out))) h0
                              have hne : (er != 0) = true := by simpa using h0
                              clear h0 f0_0' f0_1' m1_0' m1_1' d0' d1' d2' x0 x1
                              go_wp2
                              go_ret
                              exact ⟨ret_int H.out, hbwr.trans (hbn.mono hbwr.size)⟩
                          · have HE0 : Hid (firstE (edgeErr f.values f.blocks) b.edges = 0) := by
                              show _ = _
                              rw [← HQ.out, List.drop_of_length_le (by omega)]
                              rfl
                            have H : Hid (firstE (blockErr f.values f.blocks m0 m1) (f.blocks.drop (i + 1)) = firstE (blockErr f.values f.blocks m0 m1) f.blocks) := HBOK.out (blockErr_edge _ _ _ _ _ _ HI0.out HM.out HE0.out)
                            clear HQ
                            go_wp2
                            go_roundw
                            case rel => exact ⟨i + 1, by omega, by go_num, hbW1.trans (hbr1.mono hbW1.size), H⟩
                            case measure => simp [intOf]; omega
              · have HE2 : Hid (firstE (blockErr f.values f.blocks m0 m1) f.blocks = 0) := by
                  show _ = _
                  rw [← HK.out, List.drop_of_length_le (by omega)]
                  rfl
                have HMD : Hid (madeErr f.values f.blocks = res) := HSM.out HE2.out
                clear HK
                go_wp2_with fail
                refine (rmakers_any f.values _ _ f.blocks _ _ _ (hbl.below hbwo (RBlk.below hbwo)) (by omega)).mono ?_
                rintro e wm ⟨vl, rfl, hown, hbm0⟩
                have hbm : Below W.heap.size W wm := hbo.trans (hbm0.mono hbo.size)
                have hbwm : Below w.heap.size w wm := hbw.trans (hbm.mono hbw.size)
                obtain ⟨al, cl, rfl, hcap, hsl⟩ := own_slR hown (by unfold longest; omega)
                have HML : Hid (madeErr f.values f.blocks = if marks f.values.length (fun _ => false) (allM f.blocks) = 0 then (if (allM f.blocks).length < f.values.length then 6 else 0) else marks f.values.length (fun _ => false) (allM f.blocks)) := rfl
                clear hown f0_0o f0_1o m1_0o m1_1o
                generalize allM f.blocks = L at *
                go_wp2
                go_loopw [12] (fun t wr => ∃ k : Nat, k ≤ L.length ∧ t = .int .i64 k ∧ Below wm.heap.size wm wr ∧ Hid (∀ u ∈ L.take k, isValueB f.values.length u = true) ∧ Hid (marks f.values.length ((L.take k).foldl markS (fun _ => false)) (L.drop k) = marks f.values.length (fun _ => false) L)) (fun t _ => L.length - (intOf t).toNat)
                case atStart => exact ⟨0, Nat.zero_le _, rfl, Below.refl _ _, fun u hu => by simp at hu, rfl⟩
                case round =>
                  clear hlt
                  obtain ⟨k, hk, rfl, hbr, HU, HK⟩ := hrel
                  have hbWr : Below W.heap.size W wr := hbm.trans (hbr.mono hbm.size)
                  have hbwr : Below w.heap.size w wr := hbw.trans (hbWr.mono hbw.size)
                  have zr := hbWr.size
                  obtain ⟨f0_0', f0_1', m1_0', m1_1', _⟩ := HS.out _ hbWr
                  have hslr := hsl.below hbr fun _ _ h => h
                  by_cases hlt : k < L.length
                  · obtain ⟨bl, offl, rfl, hblk, l0⟩ := int_cell hslr k hlt
                    have HTK : Hid ((L.take k).length = k) := by show _ = _; simp; omega
                    have hMK : marks f.values.length ((L.take k).foldl markS (fun _ => false)) (L.drop k) = if markE f.values.length ((L.take k).foldl markS (fun _ => false)) L[k] = 0 then marks f.values.length ((L.take (k + 1)).foldl markS (fun _ => false)) (L.drop (k + 1)) else markE f.values.length ((L.take k).foldl markS (fun _ => false)) L[k] := by
                      rw [List.drop_eq_getElem_cons hlt, marks, List.take_succ_eq_append_getElem hlt, List.foldl_append]
                      rfl
                    have HMK : Hid (marks f.values.length (fun _ => false) L = if markE f.values.length ((L.take k).foldl markS (fun _ => false)) L[k] = 0 then marks f.values.length ((L.take (k + 1)).foldl markS (fun _ => false)) (L.drop (k + 1)) else markE f.values.length ((L.take k).foldl markS (fun _ => false)) L[k]) := HK.out.symm.trans hMK
                    clear hMK HK
                    have hbd : Below wr.heap.size wr wr.drew := (Below.refl _ _).drew
                    have HSk : Hid (∀ w', Below wr.heap.size wr w' → (fun w' => w'.cell? ⟨w.heap.size, 0, none⟩ = some (.slice av f.values.length cv) ∧ w'.cell? ⟨w.heap.size, 1, none⟩ = some (.slice (some ⟨b3, off3, none⟩) f.blocks.length cb) ∧ w'.cell? ⟨bl, offl + k, none⟩ = some (.int .i64 L[k]) ∧ Below wr.heap.size wr w') w') := fun w' hh => ⟨(hh.cell (by simp; omega)).trans f0_0', (hh.cell (by simp; omega)).trans f0_1', (hh.cell (by simp; omega)).trans l0, hh⟩
                    obtain ⟨vk, hvk⟩ : ∃ vk, isValueB f.values.length L[k] = vk := ⟨_, rfl⟩
                    have HVK : Hid (isValueB f.values.length L[k] = vk) := hvk
                    clear hvk
                    go_upto_region 35 with fail
                    refine wp_region_X (fun w' => w'.cell? ⟨w.heap.size, 0, none⟩ = some (.slice av f.values.length cv) ∧ w'.cell? ⟨w.heap.size, 1, none⟩ = some (.slice (some ⟨b3, off3, none⟩) f.blocks.length cb) ∧ w'.cell? ⟨bl, offl + k, none⟩ = some (.int .i64 L[k]) ∧ Below wr.heap.size wr w') 99 (by kernel_rfl) (HSk.out _ hbd) (fun hHeld => ?_)
                    refine wpXt 0 rfl (v := ?_) (by kernel_rfl) (fun _ _ _ h => h) (by rfl) ?_ hHeld ?_
                    rotate_left
                    · intro w' hSw
                      go_simp <;> with_reducible rfl
                    try simp only [Act.put, List.setIfInBounds_toArray, List.set_cons_zero, List.set_cons_succ]
                    refine wpXt 1 rfl (v := ?_) (by kernel_rfl) (fun _ _ _ h => h) (by rfl) ?_ hHeld ?_
                    rotate_left
                    · intro w' hSw
                      go_simp <;> with_reducible rfl
                    try simp only [Act.put, List.setIfInBounds_toArray, List.set_cons_zero, List.set_cons_succ]
                    refine wpXt 2 rfl (v := ?_) (by kernel_rfl) (fun _ _ _ h => h) (by rfl) ?_ hHeld ?_
                    rotate_left
                    · intro w' hSw
                      go_simp <;> with_reducible rfl
                    try simp only [Act.put, List.setIfInBounds_toArray, List.set_cons_zero, List.set_cons_succ]
                    refine wpXt 3 rfl (v := ?_) (by kernel_rfl) (fun _ _ _ h => h) (by rfl) ?_ hHeld ?_
                    rotate_left
                    · intro w' hSw
                      go_simp <;> with_reducible rfl
                    try simp only [Act.put, List.setIfInBounds_toArray, List.set_cons_zero, List.set_cons_succ]
                    refine wpXt 4 rfl (v := ?_) (by kernel_rfl) (fun _ _ _ h => h) (by rfl) ?_ hHeld ?_
                    rotate_left
                    · intro w' hSw
                      go_simp <;> with_reducible rfl
                    try simp only [Act.put, List.setIfInBounds_toArray, List.set_cons_zero, List.set_cons_succ]
                    refine wpXs 5 rfl (by kernel_rfl) (fun K hK => ?_)
                    go_simp
                    refine (valueMay_b _ _ _ _ _ _ HVK.out _ lv0).mono ?_
                    rintro e wn ⟨rfl, hbn0⟩
                    have hbn : Below wr.heap.size wr wn := hbd.trans (hbn0.mono hbd.size)
                    refine hK.out _ _ (HSk.out _ hbn) (fun hHeld => ?_)
                    clear hK K
                    try simp only [Act.put, List.setIfInBounds_toArray, List.set_cons_zero, List.set_cons_succ]
                    refine wpXs 6 rfl (by kernel_rfl) (fun K hK => ?_)
                    go_simp
                    refine hK.out _ _ (HSk.out _ hbn) (fun hHeld => ?_)
                    clear hK K
                    try simp only [Act.put, List.setIfInBounds_toArray, List.set_cons_zero, List.set_cons_succ]
                    refine wpAnyX_done (by kernel_rfl) ?_ _
                    cases vk
                    case false =>
                      have hE : markE f.values.length ((L.take k).foldl markS (fun _ => false)) L[k] = 2 := by unfold markE; rw [if_pos HVK.out]
                      have H : Hid (2 = res) := by
                        show _ = _
                        rw [← HMD.out, HML.out, HMK.out, hE]
                        rfl
                      clear hE
                      go_wp2
                      go_ret
                      exact ⟨ret_int H.out, hbwr.trans (hbn.mono hbwr.size)⟩
                    case true =>
                      have hbnd : Below wr.heap.size wr wn.drew := hbn.drew
                      obtain ⟨hs, hhs⟩ : ∃ hs, hasI (L.take k) L[k] = hs := ⟨_, rfl⟩
                      have HHS : Hid (hasI (L.take k) L[k] = hs) := hhs
                      have HMH : Hid (markE f.values.length ((L.take k).foldl markS (fun _ => false)) L[k] = if hs = true then 7 else 0) := by
                        show _ = _
                        unfold markE
                        rw [if_neg (by simp [HVK.out]), md_has f.values.length L[k] HVK.out (L.take k) HU.out, hhs]
                      clear hhs
                      have k0 : (0 : Int) ≤ (k : Int) := by omega
                      have k1 : (k : Int) ≤ (cl : Int) := by omega
                      have k2 : k ≤ cl := by omega
                      go_upto_region 37 with fail
                      refine wp_region_X (fun w' => w'.cell? ⟨w.heap.size, 0, none⟩ = some (.slice av f.values.length cv) ∧ w'.cell? ⟨w.heap.size, 1, none⟩ = some (.slice (some ⟨b3, off3, none⟩) f.blocks.length cb) ∧ w'.cell? ⟨bl, offl + k, none⟩ = some (.int .i64 L[k]) ∧ Below wr.heap.size wr w') 99 (by kernel_rfl) (HSk.out _ hbnd) (fun hHeld => ?_)
                      refine wpXt 0 rfl (v := ?_) (by kernel_rfl) (fun _ _ _ h => h) (by rfl) ?_ hHeld ?_
                      rotate_left
                      · intro w' hSw
                        go_simp <;> with_reducible rfl
                      try simp only [Act.put, List.setIfInBounds_toArray, List.set_cons_zero, List.set_cons_succ]
                      refine wpXt 1 rfl (v := ?_) (by kernel_rfl) (fun _ _ _ h => h) (by rfl) ?_ hHeld ?_
                      rotate_left
                      · intro w' hSw
                        go_simp <;> with_reducible rfl
                      try simp only [Act.put, List.setIfInBounds_toArray, List.set_cons_zero, List.set_cons_succ]
                      refine wpXt 2 rfl (v := ?_) (by kernel_rfl) (fun _ _ _ h => h) (by rfl) ?_ hHeld ?_
                      rotate_left
                      · intro w' hSw
                        go_simp <;> with_reducible rfl
                      try simp only [Act.put, List.setIfInBounds_toArray, List.set_cons_zero, List.set_cons_succ]
                      refine wpXt 3 rfl (v := ?_) (by kernel_rfl) (fun _ _ _ h => h) (by rfl) ?_ hHeld ?_
                      rotate_left
                      · intro w' hSw
                        go_simp <;> with_reducible rfl
                      try simp only [Act.put, List.setIfInBounds_toArray, List.set_cons_zero, List.set_cons_succ]
                      refine wpXt 4 rfl (v := ?_) (by kernel_rfl) (fun _ _ _ h => h) (by rfl) ?_ hHeld ?_
                      rotate_left
                      · intro w' hSw
                        go_simp <;> with_reducible rfl
                      try simp only [Act.put, List.setIfInBounds_toArray, List.set_cons_zero, List.set_cons_succ]
                      refine wpXt 5 rfl (v := ?_) (by kernel_rfl) (fun _ _ _ h => h) (by rfl) ?_ hHeld ?_
                      rotate_left
                      · intro w' hSw
                        go_simp <;> with_reducible rfl
                      try simp only [Act.put, List.setIfInBounds_toArray, List.set_cons_zero, List.set_cons_succ]
                      refine wpXt 6 rfl (v := ?_) (by kernel_rfl) (fun _ _ _ h => h) (by rfl) ?_ hHeld ?_
                      rotate_left
                      · intro w' hSw
                        go_simp <;> with_reducible rfl
                      try simp only [Act.put, List.setIfInBounds_toArray, List.set_cons_zero, List.set_cons_succ]
                      refine wpXs 7 rfl (by kernel_rfl) (fun K hK => ?_)
                      go_simp
                      refine (has_at (L.take k) k HTK.out _ _ _ hs HHS.out _ ((hslr.below hbnd fun _ _ h => h).takeI k hk)).mono ?_
                      rintro e wq ⟨rfl, hbq0⟩
                      have hbq : Below wr.heap.size wr wq := hbnd.trans (hbq0.mono hbnd.size)
                      refine hK.out _ _ (HSk.out _ hbq) (fun hHeld => ?_)
                      clear hK K
                      try simp only [Act.put, List.setIfInBounds_toArray, List.set_cons_zero, List.set_cons_succ]
                      refine wpAnyX_done (by kernel_rfl) ?_ _
                      cases hs
                      case true =>
                        have H : Hid (7 = res) := by
                          show _ = _
                          rw [← HMD.out, HML.out, HMK.out, HMH.out]
                          rfl
                        go_wp2
                        go_ret
                        exact ⟨ret_int H.out, hbwr.trans (hbq.mono hbwr.size)⟩
                      case false =>
                        have H : Hid (marks f.values.length ((L.take (k + 1)).foldl markS (fun _ => false)) (L.drop (k + 1)) = marks f.values.length (fun _ => false) L) := by
                          show _ = _
                          rw [HMK.out, HMH.out]
                          rfl
                        have H2 : Hid (∀ u ∈ L.take (k + 1), isValueB f.values.length u = true) := fun u hu => by
                          rw [List.take_succ_eq_append_getElem hlt] at hu
                          rcases List.mem_append.1 hu with h | h
                          · exact HU.out u h
                          · rw [List.mem_singleton.1 h]; exact HVK.out
                        go_wp2
                        go_roundw
                        case rel => exact ⟨k + 1, by omega, by go_num, hbr.trans (hbq.mono hbr.size), H2, H⟩
                        case measure => simp [intOf]; omega
                  · have HM0 : Hid (marks f.values.length (fun _ => false) L = 0) := by
                      show _ = _
                      rw [← HK.out, List.drop_of_length_le (by omega)]
                      rfl
                    by_cases hfew : L.length < f.values.length
                    · have H : Hid (6 = res) := by show _ = _; rw [← HMD.out, HML.out, if_pos HM0.out, if_pos hfew]
                      have gf : (L.length : Int) < (f.values.length : Int) := by omega
                      go_wp2
                      go_ret
                      exact ⟨ret_int H.out, hbwr⟩
                    · have H : Hid (0 = res) := by show _ = _; rw [← HMD.out, HML.out, if_pos HM0.out, if_neg hfew]
                      have gf : ¬ (L.length : Int) < (f.values.length : Int) := by omega
                      go_wp2
                      go_ret
                      exact ⟨ret_int H.out, hbwr⟩
end Go.Proofs.Ytjbjnndmpheedaa
