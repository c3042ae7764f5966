/-
  The contract of 'work.rings': what goes round in rings is done.
-/
import Derived.Test.YtdlglinbjkaokabOrL
namespace Go.Proofs.Ytdlglinbjkaokab
open Go.RowKit Go.Lib
set_option linter.unusedVariables false

/-- While rings are done. -/
structure RsC (X bc bl br B : Nat) (r0 r1 fr : Int) (nC : Nat) (fC : Pl → Option Value) (l : List Mv) (cl : Pl → Int) (rd : Pl → Int) (vd0 : Value) (w0 : World) (nR j : Nat) (w : World) : Prop where
  ex : ∃ left vd done, WoS X bc bl br B r0 r1 fr nC fC l.length nR left rd vd done w ∧ OrI r0 r1 fr l cl left done ∧ PermL left ∧ (∀ m ∈ l.take j, left m.dst = none) ∧ Kq X bl br vd0 vd w0 w
theorem without_none {left : Pl → Option Pl} {ring : List Mv} {q : Pl} (h : left q = none) : without left ring q = none := by
  unfold without
  split
  · rfl
  · exact h
theorem ring_first {left : Pl → Option Pl} {first : Pl} {ring : List Mv} (h : RingG left first ring first) (hne : ring ≠ []) : without left ring first = none := by
  cases ring with
  | nil => exact absurd rfl hne
  | cons x r =>
    have hx : x.dst = first := h.lin.1
    unfold without
    rw [if_pos]
    rw [← hx]
    simp [dsts]
set_option maxHeartbeats 16000000 in
theorem rings_any {X bc bl br B : Nat} {r0 r1 fr : Int} {nC : Nat} {fC : Pl → Option Value} {l : List Mv} {cl : Pl → Int} {rd : Pl → Int} {vd0 : Value} {nR : Nat} {w wb : World} (F : FitO r0 r1 fr l cl) (hC : ∀ m ∈ l, fC m.dst = some (.int .i64 (cl m.dst))) (hwf : ∀ m ∈ l, PlWf m.src ∧ PlWf m.dst) (hlen : l.length ≤ 5000) (vl : Value) (hl : SlOf wb 6 RMv vl l) (hlow : Below wb.heap.size wb w) (hwb : wb.heap.size ≤ bl) (lt1 : bc < bl) (lt2 : bl < br) (lt3 : br < X) (lt4 : X < B) (hBw : B ≤ w.heap.size) (hv0 : ∀ g, vd0.ownBlock = some g → B ≤ g) (k : RsC X bc bl br B r0 r1 fr nC fC l cl rd vd0 w nR 0 w) :
    Calls Try.prog 13 #[.pointer (some ⟨X, 0, none⟩), vl] w fun e w' => e = .returned (.tuple #[]) ∧ RsC X bc bl br B r0 r1 fr nC fC l cl rd vd0 w nR l.length w' := by
  obtain ⟨a, c, rfl, -⟩ := hl.out
  obtain ⟨n, hn⟩ : ∃ n, l.length = n := ⟨_, rfl⟩
  have HS0 : Hid (RsC X bc bl br B r0 r1 fr nC fC l cl rd vd0 w nR 0 w) := k
  rw [hn] at hl ⊢
  have HL : Hid (SlOf wb 6 RMv (.slice a n c) l ∧ l.length = n) := ⟨hl, hn⟩
  have HF : Hid (FitO r0 r1 fr l cl ∧ (∀ m ∈ l, fC m.dst = some (.int .i64 (cl m.dst))) ∧ (∀ m ∈ l, PlWf m.src ∧ PlWf m.dst)) := ⟨F, hC, hwf⟩
  have hn5 : n ≤ 5000 := by omega
  have HLO : Hid (Below wb.heap.size wb w ∧ wb.heap.size ≤ w.heap.size) := ⟨hlow, hlow.size⟩
  have HV0 : Hid (∀ g, vd0.ownBlock = some g → B ≤ g) := hv0
  clear hl hn F hC hwf hlen hlow k hv0
  go_enter Try.func13, Try.ntmps13
  go_wp2
  --CUT1
  go_loopw [10] (fun i wr => ∃ j : Nat, j ≤ n ∧ i = .int .i64 j ∧ Hid (RsC X bc bl br B r0 r1 fr nC fC l cl rd vd0 w nR j wr)) (fun i _ => n - (intOf i).toNat)
  case atStart => exact ⟨0, Nat.zero_le _, rfl, HS0⟩
  case round =>
    clear HS0
    obtain ⟨j, hj, rfl, HI⟩ := hrel
    by_cases hlt : j < n
    · have hjl : j < l.length := by rw [HL.out.2]; exact hlt
      obtain ⟨b8, off8, rfl, hb8, e0, e1, e2, e3, e4, e5⟩ := mv_at HL.out.1 j hjl
      obtain ⟨left, vd, done, k, hI, hP, hst, hK⟩ := HI.out.ex
      have hq := hK.below (B := wb.heap.size) HLO.out.2 (by omega) (by omega) (by omega) (fun g hg => by have := HV0.out g hg; omega)
      have hlow := HLO.out.1.trans hq
      replace e0 := (hlow.cell (p := ⟨b8, _, none⟩) hb8).trans e0
      replace e1 := (hlow.cell (p := ⟨b8, _, none⟩) hb8).trans e1
      replace e2 := (hlow.cell (p := ⟨b8, _, none⟩) hb8).trans e2
      replace e3 := (hlow.cell (p := ⟨b8, _, none⟩) hb8).trans e3
      replace e4 := (hlow.cell (p := ⟨b8, _, none⟩) hb8).trans e4
      replace e5 := (hlow.cell (p := ⟨b8, _, none⟩) hb8).trans e5
      obtain ⟨m, hm⟩ : ∃ m, l[j] = m := ⟨_, rfl⟩
      have hml : m ∈ l := by rw [← hm]; exact List.getElem_mem hjl
      have HM : Hid (l.take (j + 1) = l.take j ++ [m]) := by show _ = _; rw [← hm]; exact List.take_succ_eq_append_getElem hjl
      rw [hm] at e0 e1 e2 e3 e4 e5
      have hwd : PlWf m.dst := (HF.out.2.2 m hml).2
      obtain ⟨V, hV⟩ : ∃ V, wr.heap.size = V := ⟨_, rfl⟩
      obtain ⟨W2, hW2⟩ : ∃ W2, W2 = wr.alloc (.cells #[.int .i64 m.src.kind, .int .i64 m.src.cls, .int .i64 m.src.n, .int .i64 m.dst.kind, .int .i64 m.dst.cls, .int .i64 m.dst.n] 29) := ⟨_, rfl⟩
      have hb2 : Below wr.heap.size wr W2 := by rw [hW2]; exact (Below.refl _ _).alloc (Nat.le_refl _) _
      have t2 := topO wr #[.int .i64 m.src.kind, .int .i64 m.src.cls, .int .i64 m.src.n, .int .i64 m.dst.kind, .int .i64 m.dst.cls, .int .i64 m.dst.n] 29
      rw [← hW2, hV] at t2
      have zV : V < W2.heap.size := by rw [hW2, ← hV]; simp
      have k2 := k.below hb2
      have lX2 := k2.bx.lt
      obtain ⟨il, hil⟩ : ∃ il, (left m.dst).isSome = il := ⟨_, rfl⟩
      obtain ⟨z0, z1, z2, hz⟩ : ∃ z0 z1 z2, plVal ((left m.dst).getD ⟨0, 0, 0⟩) = .agg #[.int .i64 z0, .int .i64 z1, .int .i64 z2] := ⟨_, _, _, rfl⟩
      have HSS : Hid (∀ w', Below W2.heap.size W2 w' → (fun w' => w'.cell? ⟨X, 4, none⟩ = some (.map (some bl)) ∧ w'.cell? ⟨V, 3, none⟩ = some (.int .i64 m.dst.kind) ∧ w'.cell? ⟨V, 4, none⟩ = some (.int .i64 m.dst.cls) ∧ w'.cell? ⟨V, 5, none⟩ = some (.int .i64 m.dst.n) ∧ (Instr.lookup 43 (.map (some bl)) (.agg #[.int .i64 m.dst.kind, .int .i64 m.dst.cls, .int .i64 m.dst.n]) true).run Try.prog w' = .ok (.tuple #[.agg #[.int .i64 z0, .int .i64 z1, .int .i64 z2], .bool il]) w') w') := fun w' hh => by
        have kk := k2.below hh
        refine ⟨kk.bx.cell (i := 4) (by omega), (hh.cell (p := ⟨V, 3, none⟩) zV).trans (t2 3), (hh.cell (p := ⟨V, 4, none⟩) zV).trans (t2 4), (hh.cell (p := ⟨V, 5, none⟩) zV).trans (t2 5), ?_⟩
        have h := kk.ml.look_ok Try.underlying43 (zeroPl w') hwd
        rw [leftV_getD, leftV_some, hil, hz] at h
        exact h
      have HW2 : Hid (W2 = wr.alloc (.cells #[.int .i64 m.src.kind, .int .i64 m.src.cls, .int .i64 m.src.n, .int .i64 m.dst.kind, .int .i64 m.dst.cls, .int .i64 m.dst.n] 29)) := hW2
      have HVV : Hid (wr.heap.size = V) := hV
      have HIL : Hid ((left m.dst).isSome = il) := hil
      have HKI : Hid (WoS X bc bl br B r0 r1 fr nC fC l.length nR left rd vd done wr ∧ OrI r0 r1 fr l cl left done ∧ PermL left ∧ (∀ m ∈ l.take j, left m.dst = none) ∧ Kq X bl br vd0 vd w wr) := ⟨k, hI, hP, hst, hK⟩
      have HB2 : Hid (Below wr.heap.size wr W2) := hb2
      clear hq hlow hb8 hm hW2 hV t2 hil hz k hI hP hst hK k2 lX2 hb2 HI
      go_upto_region 3 with fail
      rw [← HW2.out, HVV.out]
      clear HW2 e0 e1 e2 e3 e4 e5
      --CUT2
      refine wp_region_X (fun w' => w'.cell? ⟨X, 4, none⟩ = some (.map (some bl)) ∧ w'.cell? ⟨V, 3, none⟩ = some (.int .i64 m.dst.kind) ∧ w'.cell? ⟨V, 4, none⟩ = some (.int .i64 m.dst.cls) ∧ w'.cell? ⟨V, 5, none⟩ = some (.int .i64 m.dst.n) ∧ (Instr.lookup 43 (.map (some bl)) (.agg #[.int .i64 m.dst.kind, .int .i64 m.dst.cls, .int .i64 m.dst.n]) true).run Try.prog w' = .ok (.tuple #[.agg #[.int .i64 z0, .int .i64 z1, .int .i64 z2], .bool il]) w') 99 (by kernel_rfl) (HSS.out _ (Below.refl _ _).drew) (fun hHeld => ?_)
      refine wpXt (v := ?_) 0 rfl (by kernel_rfl) (fun _ _ _ h => h) (by rfl) ?_ hHeld ?_
      rotate_left
      · intro w' hSw
        go_simp <;> with_reducible rfl
      try simp only [Act.put, List.setIfInBounds_toArray, List.set_cons_zero, List.set_cons_succ]
      refine wpXt (v := ?_) 1 rfl (by kernel_rfl) (fun _ _ _ h => h) (by rfl) ?_ hHeld ?_
      rotate_left
      · intro w' hSw
        go_simp <;> with_reducible rfl
      try simp only [Act.put, List.setIfInBounds_toArray, List.set_cons_zero, List.set_cons_succ]
      refine wpXt (v := ?_) 2 rfl (by kernel_rfl) (fun _ _ _ h => h) (by rfl) ?_ hHeld ?_
      rotate_left
      · intro w' hSw
        go_simp <;> with_reducible rfl
      try simp only [Act.put, List.setIfInBounds_toArray, List.set_cons_zero, List.set_cons_succ]
      refine wpXt (v := ?_) 3 rfl (by kernel_rfl) (fun _ _ _ h => h) (by rfl) ?_ hHeld ?_
      rotate_left
      · intro w' hSw
        go_simp <;> with_reducible rfl
      try simp only [Act.put, List.setIfInBounds_toArray, List.set_cons_zero, List.set_cons_succ]
      refine wpXt (v := ?_) 4 rfl (by kernel_rfl) (fun _ _ _ h => h) (by rfl) ?_ hHeld ?_
      rotate_left
      · intro w' hSw
        go_simp <;> with_reducible rfl
      try simp only [Act.put, List.setIfInBounds_toArray, List.set_cons_zero, List.set_cons_succ]
      refine wpXt (v := ?_) 5 rfl (by kernel_rfl) (fun _ _ _ h => h) (by rfl) ?_ hHeld ?_
      rotate_left
      · intro w' hSw
        go_simp <;> with_reducible rfl
      try simp only [Act.put, List.setIfInBounds_toArray, List.set_cons_zero, List.set_cons_succ]
      refine wpXt (v := .tuple #[.agg #[.int .i64 z0, .int .i64 z1, .int .i64 z2], .bool il]) 6 rfl (by kernel_rfl) (fun _ _ _ h => h) (by rfl) ?_ hHeld ?_
      · intro w' hSw
        exact execO_lookup _ _ _ _ rfl rfl rfl hSw.2.2.2.2
      try simp only [Act.put, List.setIfInBounds_toArray, List.set_cons_zero, List.set_cons_succ]
      refine wpXt (v := ?_) 7 rfl (by kernel_rfl) (fun _ _ _ h => h) (by rfl) ?_ hHeld ?_
      rotate_left
      · intro w' hSw
        go_simp <;> with_reducible rfl
      try simp only [Act.put, List.setIfInBounds_toArray, List.set_cons_zero, List.set_cons_succ]
      refine wpXt (v := ?_) 8 rfl (by kernel_rfl) (fun _ _ _ h => h) (by rfl) ?_ hHeld ?_
      rotate_left
      · intro w' hSw
        go_simp <;> with_reducible rfl
      try simp only [Act.put, List.setIfInBounds_toArray, List.set_cons_zero, List.set_cons_succ]
      refine wpXt (v := ?_) 9 rfl (by kernel_rfl) (fun _ _ _ h => h) (by rfl) ?_ hHeld ?_
      rotate_left
      · intro w' hSw
        go_simp <;> with_reducible rfl
      try simp only [Act.put, List.setIfInBounds_toArray, List.set_cons_zero, List.set_cons_succ]
      refine wpXs 10 rfl (by kernel_rfl) (fun K hK => ?_)
      go_simp
      refine hK.out _ _ (HSS.out _ (((Below.refl W2.heap.size W2).drew).alloc (Nat.le_refl _) _)) (fun hHeld => ?_)
      clear hK K
      try simp only [Act.put, List.setIfInBounds_toArray, List.set_cons_zero, List.set_cons_succ]
      refine wpXs 11 rfl (by kernel_rfl) (fun K hK => ?_)
      go_simp
      refine hK.out _ _ (HSS.out _ (((Below.refl W2.heap.size W2).drew).alloc (Nat.le_refl _) _)) (fun hHeld => ?_)
      clear hK K
      try simp only [Act.put, List.setIfInBounds_toArray, List.set_cons_zero, List.set_cons_succ]
      refine wpXt (v := ?_) 12 rfl (by kernel_rfl) (fun _ _ _ h => h) (by rfl) ?_ hHeld ?_
      rotate_left
      · intro w' hSw
        go_simp <;> with_reducible rfl
      try simp only [Act.put, List.setIfInBounds_toArray, List.set_cons_zero, List.set_cons_succ]
      refine wpAnyX_done (by kernel_rfl) ?_ _
      obtain ⟨W3, hW3⟩ : ∃ W3, W3 = (W2.alloc (.cells #[.int .i64 z0, .int .i64 z1, .int .i64 z2] 26)).drew := ⟨_, rfl⟩
      have hb3 : Below W2.heap.size W2 W3 := by rw [hW3]; exact ((Below.refl _ _).alloc (Nat.le_refl _) _).drew
      rw [← hW3]
      clear hW3 hHeld
      have hb13 := HB2.out.trans (hb3.mono HB2.out.size)
      obtain ⟨s0, s1, s2, s3, -⟩ := HSS.out W3 hb3
      cases il
      · have HE : Hid (RsC X bc bl br B r0 r1 fr nC fC l cl rd vd0 w nR (j + 1) W3) := by
          obtain ⟨k, hI, hP, hst, hK⟩ := HKI.out
          refine ⟨left, vd, done, k.below hb13, hI, hP, fun x hx => ?_, hK.trans (Kq.of_below hb13)⟩
          rw [HM.out] at hx
          rcases List.mem_append.1 hx with h | h
          · exact hst x h
          · rw [List.mem_singleton.1 h]
            have h2 := HIL.out
            cases hh : left m.dst with
            | none => rfl
            | some p => rw [hh] at h2; cases h2
        clear HKI HSS HIL HM
        --CUT3
        go_wp2
        exact ⟨⟨j + 1, by omega, by simp, HE.out⟩, by simp [intOf]; omega⟩
      · have k3 := HKI.out.1.below hb13
        have hf : left m.dst ≠ none := fun e => by
          have h2 := HIL.out
          rw [e] at h2
          cases h2
        have hn5' : l.length ≤ 5000 := by have := HL.out.2; omega
        have HRG := ring_any HF.out.1 HF.out.2.2 hn5' HKI.out.2.1 HKI.out.2.2.1 m.dst hf k3
        --CUT4
        go_wp2_with (go_at_call 22; refine HRG.mono ?_; clear HRG; rintro e w4 ⟨ring, vr, rfl, hrne, hrg, k4, q4, ho4⟩; have HTN := turn_any cl ring vr W3.heap.size k4 ho4 k3.lB (fun g hg e => by have h1 := (own_base ho4 hg).1; have h2 := (own_base k3.own e).2; omega) hrne (by have h1 := ring_len HF.out.1 HKI.out.2.1 hrg; have h2 : cntL l left ≤ l.length := List.length_filter_le _ _; omega) (by have h1 := HKI.out.2.1.len; omega) (fun x hx => by
          obtain ⟨⟨y, hy, hyd, _⟩, _⟩ := HKI.out.2.1.src _ _ (hrg.is x hx)
          rw [← hyd]
          exact ⟨(HF.out.2.2 y hy).2, HF.out.1.cls y hy, HF.out.2.1 y hy⟩); clear HSS HB2)
        --CUT5
        refine HTN.mono ?_
        clear HTN
        rintro e w5 ⟨rfl, l1, l2, x0, aside, vd5, hre, ha, k5, q5⟩
        have HE : Hid (RsC X bc bl br B r0 r1 fr nC fC l cl rd vd0 w nR (j + 1) w5) := by
          obtain ⟨k, hI, hP, hst, hK⟩ := HKI.out
          subst hre
          refine ⟨_, vd5, _, k5, OrI.turn HF.out.1 hI hP hrg ha, hrg.perm hP, fun x hx => ?_, ((hK.trans (Kq.of_below hb13)).trans q4).trans q5⟩
          rw [HM.out] at hx
          rcases List.mem_append.1 hx with h | h
          · exact without_none (hst x h)
          · rw [List.mem_singleton.1 h]
            exact ring_first hrg hrne
        clear HKI HIL HM hre ha k5 q5 k4 q4 ho4 hrg hrne k3 hf hb13
        go_wp2
        exact ⟨⟨j + 1, by omega, by simp, HE.out⟩, by simp [intOf]; omega⟩
    · have hjn : j = n := by omega
      subst hjn
      go_wp2
      first | go_end0 | refine bodyPost_ret (results_none rfl _ _ _) rfl ?_
      exact ⟨rfl, HI.out⟩
end Go.Proofs.Ytdlglinbjkaokab
