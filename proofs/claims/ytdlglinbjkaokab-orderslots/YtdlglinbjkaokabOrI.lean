/-
  The contract of 'work.parting': at which move a ring is opened, and where what that one takes is laid aside.
-/
import Derived.Test.YtdlglinbjkaokabOrH
namespace Go.Proofs.Ytdlglinbjkaokab
open Go.RowKit
set_option linter.unusedVariables false

def hpF (cl : Pl → Int) (l : List Mv) (i : Nat) : Value := if i = 0 then .int .i64 (hopC cl l 0) else .int .i64 (hopC cl l 1)
/-- While the hops are counted. -/
structure PtI (W : World) (N HB : Nat) (cl : Pl → Int) (l : List Mv) (w : World) : Prop where
  os : w.os = W.os
  tape : w.tape = W.tape
  output : w.output = W.output
  size : W.heap.size ≤ w.heap.size
  block : ∀ q, q < W.heap.size → q ≠ HB → w.heap[q]? = W.heap[q]?
  hops : w.rowIs HB 33 2 (hpF cl l)
theorem PtI.below {W : World} {N HB : Nat} {cl : Pl → Int} {l : List Mv} {w w' : World} (h : PtI W N HB cl l w) (hb : Below w.heap.size w w') : PtI W N HB cl l w' :=
  ⟨hb.os.trans h.os, hb.tape.trans h.tape, hb.output.trans h.output, Nat.le_trans h.size hb.size, fun q hq hn => (hb.block q (Nat.lt_of_lt_of_le hq h.size)).trans (h.block q hq hn), h.hops.of_block (hb.block _ h.hops.lt)⟩
theorem PtI.hop {W : World} {N HB : Nat} {cl : Pl → Int} {l : List Mv} {m : Mv} {w : World} (h : PtI W N HB cl l w) (hm : hopB m = true) {c : Nat} (hc : cl m.dst = (c : Int)) (hc2 : c = 0 ∨ c = 1) : PtI W N HB cl (l ++ [m]) (w.setCell ⟨HB, c, none⟩ (.int .i64 (hopC cl l (c : Int) + 1))) := by
  have off : ∀ q, q ≠ HB → (w.setCell ⟨HB, c, none⟩ (.int .i64 (hopC cl l (c : Int) + 1))).heap[q]? = w.heap[q]? := fun q hq => Below.heap_setCell _ _ _ _ (by show q ≠ HB; exact hq)
  refine ⟨h.os, h.tape, h.output, by simpa [World.setCell] using h.size, fun q hq hn => (off q hn).trans (h.block q hq hn), (h.hops.set c _).congr fun i hi => ?_⟩
  have h0 := hopC_snoc cl l m 0
  have h1 := hopC_snoc cl l m 1
  rcases hc2 with rfl | rfl
  · rw [if_pos ⟨hm, hc⟩] at h0
    rw [if_neg (by rw [hc]; simp), Int.add_zero] at h1
    unfold hpF
    have : i = 0 ∨ i = 1 := by omega
    rcases this with rfl | rfl
    · simp [h0]
    · simp [h1]
  · rw [if_pos ⟨hm, hc⟩] at h1
    rw [if_neg (by rw [hc]; simp), Int.add_zero] at h0
    unfold hpF
    have : i = 0 ∨ i = 1 := by omega
    rcases this with rfl | rfl
    · simp [h0]
    · simp [h1]
theorem PtI.nohop {W : World} {N HB : Nat} {cl : Pl → Int} {l : List Mv} {m : Mv} {w : World} (h : PtI W N HB cl l w) (hm : hopB m = false) : PtI W N HB cl (l ++ [m]) w := by
  refine ⟨h.os, h.tape, h.output, h.size, h.block, h.hops.congr fun i hi => ?_⟩
  have h0 := hopC_snoc cl l m 0
  have h1 := hopC_snoc cl l m 1
  rw [if_neg (by rw [hm]; simp), Int.add_zero] at h0 h1
  unfold hpF
  rw [h0, h1]
set_option maxHeartbeats 16000000 in
theorem parting_any {X bc bl br B : Nat} {r0 r1 fr : Int} {nC : Nat} {fC : Pl → Option Value} {nL nR : Nat} {left : Pl → Option Pl} {rd : Pl → Int} {vd : Value} {done : List Mv} {w : World} (cl : Pl → Int) (ring : List Mv) (vr : Value) (k : WoS X bc bl br B r0 r1 fr nC fC nL nR left rd vd done w) (hl : SlOf w 6 RMv vr ring) (hne : ring ≠ []) (hl5 : ring.length ≤ 5000) (hR : ∀ m ∈ ring, PlWf m.dst ∧ (cl m.dst = 0 ∨ cl m.dst = 1) ∧ fC m.dst = some (.int .i64 (cl m.dst))) :
    Calls Try.prog 26 #[.pointer (some ⟨X, 0, none⟩), vr] w fun e w' => Below w.heap.size w w' ∧ ∃ (i : Nat) (aside : Pl) (x0 : Mv), e = .returned (.tuple #[.int .i64 i, .agg #[.int .i64 aside.kind, .int .i64 aside.cls, .int .i64 aside.n]]) ∧ ring[i]? = some x0 ∧ AsideP r0 r1 fr cl x0 (ring.drop (i + 1) ++ ring.take i) aside := by
  obtain ⟨a, c, rfl, -⟩ := hl.out
  obtain ⟨n, hn⟩ : ∃ n, ring.length = n := ⟨_, rfl⟩
  rw [hn] at hl ⊢
  obtain ⟨Y, hY⟩ : ∃ Y, w.heap.size = Y := ⟨_, rfl⟩
  obtain ⟨R, hRR⟩ : ∃ R, Y + 1 = R := ⟨_, rfl⟩
  obtain ⟨HB, hHB⟩ : ∃ HB, R + 1 = HB := ⟨_, rfl⟩
  obtain ⟨W, hW⟩ : ∃ W, W = ((w.alloc (.cells #[.pointer (some ⟨X, 0, none⟩)] 52)).alloc (.cells #[.int .i64 0, .int .i64 0, .int .i64 0] 26)).alloc (.cells #[.int .i64 0, .int .i64 0] 33) := ⟨_, rfl⟩
  have hbw : Below w.heap.size w W := by rw [hW]; exact (((Below.refl _ _).alloc (Nat.le_refl _) _).alloc (by simp) _).alloc (by simp; omega) _
  have z1 : (w.alloc (.cells #[.pointer (some ⟨X, 0, none⟩)] 52)).heap.size = R := by rw [← hRR, ← hY]; simp
  have z2 : ((w.alloc (.cells #[.pointer (some ⟨X, 0, none⟩)] 52)).alloc (.cells #[.int .i64 0, .int .i64 0, .int .i64 0] 26)).heap.size = HB := by rw [← hHB, ← z1]; simp
  have tY : W.cell? ⟨Y, 0, none⟩ = some (.pointer (some ⟨X, 0, none⟩)) := by
    have h := topO w #[.pointer (some ⟨X, 0, none⟩)] 52 0
    rw [hY] at h
    rw [hW]
    exact (World.cell?_alloc_lt _ _ _ (by show Y < _; rw [z2]; omega)).trans ((World.cell?_alloc_lt _ _ _ (by show Y < _; rw [z1]; omega)).trans h)
  have rR : W.rowIs R 26 3 (plF ⟨0, 0, 0⟩) := by
    have h := (pl_row (w.alloc (.cells #[.pointer (some ⟨X, 0, none⟩)] 52)) ⟨0, 0, 0⟩).alloc (.cells #[.int .i64 0, .int .i64 0] 33)
    rw [z1] at h
    rw [hW]
    exact h
  have rH : W.rowIs HB 33 2 (hpF cl []) := by
    have h := World.rowIs_alloc ((w.alloc (.cells #[.pointer (some ⟨X, 0, none⟩)] 52)).alloc (.cells #[.int .i64 0, .int .i64 0, .int .i64 0] 26)) #[.int .i64 0, .int .i64 0] 33 (hpF cl []) (fun i hi => by
      have : i = 0 ∨ i = 1 := by simp at hi; omega
      rcases this with rfl | rfl <;> rfl)
    rw [z2] at h
    rw [hW]
    exact h
  have zW : W.heap.size = HB + 1 := by rw [hW, ← z2]; simp
  have lX := k.bx.lt
  have HK : Hid (WoS X bc bl br B r0 r1 fr nC fC nL nR left rd vd done w) := k
  have HL : Hid (SlOf w 6 RMv (.slice a n c) ring ∧ ring.length = n ∧ ring ≠ [] ∧ ∀ m ∈ ring, PlWf m.dst ∧ (cl m.dst = 0 ∨ cl m.dst = 1) ∧ fC m.dst = some (.int .i64 (cl m.dst))) := ⟨hl, hn, hne, hR⟩
  have hn5 : n ≤ 5000 := by omega
  have HI0 : Hid (PtI W Y HB cl [] W) := ⟨rfl, rfl, rfl, Nat.le_refl _, fun _ _ _ => rfl, rH⟩
  have HBW : Hid (Below w.heap.size w W) := hbw
  have HTY : Hid (W.cell? ⟨Y, 0, none⟩ = some (.pointer (some ⟨X, 0, none⟩)) ∧ W.rowIs R 26 3 (plF ⟨0, 0, 0⟩)) := ⟨tY, rR⟩
  have HW : Hid (W = ((w.alloc (.cells #[.pointer (some ⟨X, 0, none⟩)] 52)).alloc (.cells #[.int .i64 0, .int .i64 0, .int .i64 0] 26)).alloc (.cells #[.int .i64 0, .int .i64 0] 33)) := hW
  have HN : Hid (w.heap.size = Y ∧ Y + 1 = R ∧ R + 1 = HB ∧ W.heap.size = HB + 1) := ⟨hY, hRR, hHB, zW⟩
  have HC := fun (m : Mv) (W' : World) => isHop_any m.src.kind m.src.cls m.src.n m.dst.kind m.dst.cls m.dst.n W'
  clear hl hn hne hR hl5 hbw z1 z2 tY rR rH zW k hW hY hRR hHB
  go_enter Try.func26, Try.ntmps26
  go_upto_region 3 with fail
  rw [← HW.out, HN.out.1, HN.out.2.1, HN.out.2.2.1]
  clear HW
  --CUT1
  go_loopw [13] (fun i wr => ∃ j : Nat, j ≤ n ∧ i = .int .i64 j ∧ Hid (PtI W Y HB cl (ring.take j) wr)) (fun i _ => n - (intOf i).toNat)
  case atStart => exact ⟨0, Nat.zero_le _, rfl, by simpa using HI0⟩
  case round =>
    clear HI0
    obtain ⟨j, hj, rfl, HI⟩ := hrel
    obtain ⟨eY, eR, eH, zW⟩ := HN.out
    have hlow : Below w.heap.size w wr := ⟨HI.out.os.trans HBW.out.os, HI.out.tape.trans HBW.out.tape, HI.out.output.trans HBW.out.output, Nat.le_trans HBW.out.size HI.out.size, fun q hq => (HI.out.block q (by omega) (by omega)).trans (HBW.out.block q hq)⟩
    have hY1 : wr.cell? ⟨Y, 0, none⟩ = some (.pointer (some ⟨X, 0, none⟩)) := (World.cell?_of_block (a := ⟨Y, 0, none⟩) (HI.out.block Y (by omega) (by omega))).trans HTY.out.1
    have k1 := HK.out.below hlow
    by_cases hlt : j < n
    · have hjl : j < ring.length := by rw [HL.out.2.1]; exact hlt
      obtain ⟨b8, off8, rfl, hb8, e0, e1, e2, e3, e4, e5⟩ := mv_at HL.out.1 j hjl
      replace e0 := (hlow.cell (p := ⟨b8, _, none⟩) hb8).trans e0
      replace e1 := (hlow.cell (p := ⟨b8, _, none⟩) hb8).trans e1
      replace e2 := (hlow.cell (p := ⟨b8, _, none⟩) hb8).trans e2
      replace e3 := (hlow.cell (p := ⟨b8, _, none⟩) hb8).trans e3
      replace e4 := (hlow.cell (p := ⟨b8, _, none⟩) hb8).trans e4
      replace e5 := (hlow.cell (p := ⟨b8, _, none⟩) hb8).trans e5
      obtain ⟨m, hm⟩ : ∃ m, ring[j] = m := ⟨_, rfl⟩
      obtain ⟨hwm, hcm, hfm⟩ := HL.out.2.2.2 _ (List.getElem_mem hjl)
      rw [hm] at e0 e1 e2 e3 e4 e5 hwm hcm hfm
      have HT : Hid (ring.take (j + 1) = ring.take j ++ [m]) := by show _ = _; rw [← hm]; exact List.take_succ_eq_append_getElem hjl
      clear hm hb8
      obtain ⟨M, hM⟩ : ∃ M, wr.heap.size = M := ⟨_, rfl⟩
      obtain ⟨W2, hW2⟩ : ∃ W2, W2 = wr.alloc (.cells #[.int .i64 m.src.kind, .int .i64 m.src.cls, .int .i64 m.src.n, .int .i64 m.dst.kind, .int .i64 m.dst.cls, .int .i64 m.dst.n] 29) := ⟨_, rfl⟩
      have hb2 : Below wr.heap.size wr W2 := by rw [hW2]; exact (Below.refl _ _).alloc (Nat.le_refl _) _
      have t2 := topO wr #[.int .i64 m.src.kind, .int .i64 m.src.cls, .int .i64 m.src.n, .int .i64 m.dst.kind, .int .i64 m.dst.cls, .int .i64 m.dst.n] 29
      rw [← hW2, hM] at t2
      have zM : M < W2.heap.size := by rw [hW2, ← hM]; simp
      have m0 : W2.cell? ⟨M, 0, none⟩ = some (.int .i64 m.src.kind) := t2 0
      have m1 : W2.cell? ⟨M, 1, none⟩ = some (.int .i64 m.src.cls) := t2 1
      have m2 : W2.cell? ⟨M, 2, none⟩ = some (.int .i64 m.src.n) := t2 2
      have m3 : W2.cell? ⟨M, 3, none⟩ = some (.int .i64 m.dst.kind) := t2 3
      have m4 : W2.cell? ⟨M, 4, none⟩ = some (.int .i64 m.dst.cls) := t2 4
      have m5 : W2.cell? ⟨M, 5, none⟩ = some (.int .i64 m.dst.n) := t2 5
      have HC2 := HC m W2
      obtain ⟨hp, hhp⟩ : ∃ hp, hopB m = hp := ⟨_, rfl⟩
      have hhp' : hopB ⟨⟨m.src.kind, m.src.cls, m.src.n⟩, ⟨m.dst.kind, m.dst.cls, m.dst.n⟩⟩ = hp := hhp
      rw [hhp'] at HC2
      have HHP : Hid (hopB m = hp) := hhp
      have HW2 : Hid (W2 = wr.alloc (.cells #[.int .i64 m.src.kind, .int .i64 m.src.cls, .int .i64 m.src.n, .int .i64 m.dst.kind, .int .i64 m.dst.cls, .int .i64 m.dst.n] 29)) := hW2
      have HM : Hid (wr.heap.size = M) := hM
      have HI2 := HI.out.below hb2
      have HII : Hid (PtI W Y HB cl (ring.take j) W2) := HI2
      have hY2 := (hb2.cell (block_lt hY1)).trans hY1
      have k2 := k1.below hb2
      clear hhp hhp' hW2 hM t2 HI HI2 hY1 k1 hlow
      go_upto_region 5 with fail
      rw [← HW2.out, HM.out]
      clear HW2 HM e0 e1 e2 e3 e4 e5
      --CUT2
      cases hp
      · have HE : Hid (∀ w', Below W2.heap.size W2 w' → PtI W Y HB cl (ring.take (j + 1)) w') := fun w' hh => by
          rw [HT.out]
          exact (HII.out.below hh).nohop HHP.out
        clear HII hY2 k2 zM
        go_wp2_with (go_at_call 24; refine HC2.mono ?_; clear HC2; rintro e w3 ⟨rfl, hb3⟩)
        exact ⟨⟨j + 1, by omega, by simp, HE.out _ hb3⟩, by simp [intOf]; omega⟩
      · go_upto_region 6 with (go_at_call 24; refine HC2.mono ?_; clear HC2; rintro e w3 ⟨rfl, hb3⟩)
        have I3 := HII.out.below (hb3.trans ((Below.refl w3.heap.size w3).drew.mono hb3.size))
        have hd3 : Below W2.heap.size W2 w3.drew := hb3.drew
        have k3 := k2.below hd3
        have hY3 := (hd3.cell (block_lt hY2)).trans hY2
        have hbd0 := hopC_bd cl (ring.take j) 0
        have hbd1 := hopC_bd cl (ring.take j) 1
        have hbl : ((ring.take j).length : Int) ≤ 5000 := by simp; omega
        obtain ⟨h0, hh0⟩ : ∃ h0, hopC cl (ring.take j) 0 = h0 := ⟨_, rfl⟩
        obtain ⟨h1, hh1⟩ : ∃ h1, hopC cl (ring.take j) 1 = h1 := ⟨_, rfl⟩
        have x0 : w3.drew.cell? ⟨HB, 0, none⟩ = some (.int .i64 h0) := by rw [← hh0]; exact I3.hops.cell (i := 0) (by omega)
        have x1 : w3.drew.cell? ⟨HB, 1, none⟩ = some (.int .i64 h1) := by rw [← hh1]; exact I3.hops.cell (i := 1) (by omega)
        have f0 := I3.hops.frozen 0
        have f1 := I3.hops.frozen 1
        have lH := I3.hops.lt
        rw [hh0] at hbd0
        rw [hh1] at hbd1
        have b00 := hbd0.1
        have b10 := hbd1.1
        have b01 : h0 ≤ 5000 := by omega
        have b11 : h1 ≤ 5000 := by omega
        have hw0 : IntKind.i64.wrap (h0 + 1) = h0 + 1 := by rw [IntKind.wrap_i64]; omega
        have hw1 : IntKind.i64.wrap (h1 + 1) = h1 + 1 := by rw [IntKind.wrap_i64]; omega
        have hlk := k3.mc.look Try.underlying40 (zeroI w3.drew) hwm
        rw [hfm] at hlk
        have zM3 : M < W2.heap.size := zM
        rcases hcm with hcm | hcm
        · rw [hcm] at hlk
          have HS : Hid ((fun w' => w'.cell? ⟨Y, 0, none⟩ = some (.pointer (some ⟨X, 0, none⟩)) ∧ w'.cell? ⟨X, 3, none⟩ = some (.map (some bc)) ∧ w'.cell? ⟨HB, 0, none⟩ = some (.int .i64 h0) ∧ w'.cell? ⟨HB, 1, none⟩ = some (.int .i64 h1) ∧ w'.cell? ⟨M, 3, none⟩ = some (.int .i64 m.dst.kind) ∧ w'.cell? ⟨M, 4, none⟩ = some (.int .i64 m.dst.cls) ∧ w'.cell? ⟨M, 5, none⟩ = some (.int .i64 m.dst.n) ∧ (Instr.lookup 40 (.map (some bc)) (.agg #[.int .i64 m.dst.kind, .int .i64 m.dst.cls, .int .i64 m.dst.n]) false).run Try.prog w' = .ok (.int .i64 0) w') w3.drew) := ⟨hY3, k3.bx.cell (i := 3) (by omega), x0, x1, (hd3.cell (p := ⟨M, 3, none⟩) zM3).trans m3, (hd3.cell (p := ⟨M, 4, none⟩) zM3).trans m4, (hd3.cell (p := ⟨M, 5, none⟩) zM3).trans m5, hlk⟩
          have HE : Hid (PtI W Y HB cl (ring.take (j + 1)) (w3.drew.setCell ⟨HB, 0, none⟩ (.int .i64 (h0 + 1)))) := by
            rw [HT.out, ← hh0]
            exact I3.hop HHP.out (c := 0) hcm (by omega)
          clear hh0 hh1 I3 hd3 k3 hY3 HII hY2 k2 zM zM3 hlk hcm hfm hwm x0 x1
          refine wp_region_X (fun w' => w'.cell? ⟨Y, 0, none⟩ = some (.pointer (some ⟨X, 0, none⟩)) ∧ w'.cell? ⟨X, 3, none⟩ = some (.map (some bc)) ∧ w'.cell? ⟨HB, 0, none⟩ = some (.int .i64 h0) ∧ w'.cell? ⟨HB, 1, none⟩ = some (.int .i64 h1) ∧ w'.cell? ⟨M, 3, none⟩ = some (.int .i64 m.dst.kind) ∧ w'.cell? ⟨M, 4, none⟩ = some (.int .i64 m.dst.cls) ∧ w'.cell? ⟨M, 5, none⟩ = some (.int .i64 m.dst.n) ∧ (Instr.lookup 40 (.map (some bc)) (.agg #[.int .i64 m.dst.kind, .int .i64 m.dst.cls, .int .i64 m.dst.n]) false).run Try.prog w' = .ok (.int .i64 0) w') 11 (by kernel_rfl) HS.out (fun hHeld => ?_)
          refine wpXt (v := ?_) 0 rfl (by kernel_rfl) (fun _ _ _ h => h) (by rfl) ?_ hHeld ?_
          rotate_left
          · intro w' hSw
            go_simp <;> with_reducible rfl
          try simp only [Act.put, List.setIfInBounds_toArray, List.set_cons_zero, List.set_cons_succ]
          refine wpXt (v := ?_) 1 rfl (by kernel_rfl) (fun _ _ _ h => h) (by rfl) ?_ hHeld ?_
          rotate_left
          · intro w' hSw
            go_simp <;> with_reducible rfl
          try simp only [Act.put, List.setIfInBounds_toArray, List.set_cons_zero, List.set_cons_succ]
          refine wpXt (v := ?_) 2 rfl (by kernel_rfl) (fun _ _ _ h => h) (by rfl) ?_ hHeld ?_
          rotate_left
          · intro w' hSw
            go_simp <;> with_reducible rfl
          try simp only [Act.put, List.setIfInBounds_toArray, List.set_cons_zero, List.set_cons_succ]
          refine wpXt (v := ?_) 3 rfl (by kernel_rfl) (fun _ _ _ h => h) (by rfl) ?_ hHeld ?_
          rotate_left
          · intro w' hSw
            go_simp <;> with_reducible rfl
          try simp only [Act.put, List.setIfInBounds_toArray, List.set_cons_zero, List.set_cons_succ]
          refine wpXt (v := ?_) 4 rfl (by kernel_rfl) (fun _ _ _ h => h) (by rfl) ?_ hHeld ?_
          rotate_left
          · intro w' hSw
            go_simp <;> with_reducible rfl
          try simp only [Act.put, List.setIfInBounds_toArray, List.set_cons_zero, List.set_cons_succ]
          refine wpXt (v := ?_) 5 rfl (by kernel_rfl) (fun _ _ _ h => h) (by rfl) ?_ hHeld ?_
          rotate_left
          · intro w' hSw
            go_simp <;> with_reducible rfl
          try simp only [Act.put, List.setIfInBounds_toArray, List.set_cons_zero, List.set_cons_succ]
          refine wpXt (v := .int .i64 0) 6 rfl (by kernel_rfl) (fun _ _ _ h => h) (by rfl) ?_ hHeld ?_
          · intro w' hSw
            exact execO_lookup _ _ _ _ rfl rfl rfl hSw.2.2.2.2.2.2.2
          try simp only [Act.put, List.setIfInBounds_toArray, List.set_cons_zero, List.set_cons_succ]
          refine wpXt (v := ?_) 7 rfl (by kernel_rfl) (fun _ _ _ h => h) (by rfl) ?_ hHeld ?_
          rotate_left
          · intro w' hSw
            go_simp <;> with_reducible rfl
          try simp only [Act.put, List.setIfInBounds_toArray, List.set_cons_zero, List.set_cons_succ]
          refine wpXt (v := ?_) 8 rfl (by kernel_rfl) (fun _ _ _ h => h) (by rfl) ?_ hHeld ?_
          rotate_left
          · intro w' hSw
            go_simp <;> with_reducible rfl
          try simp only [Act.put, List.setIfInBounds_toArray, List.set_cons_zero, List.set_cons_succ]
          refine wpXt (v := ?_) 9 rfl (by kernel_rfl) (fun _ _ _ h => h) (by rfl) ?_ hHeld ?_
          rotate_left
          · intro w' hSw
            go_simp <;> with_reducible rfl
          try simp only [Act.put, List.setIfInBounds_toArray, List.set_cons_zero, List.set_cons_succ]
          refine wpXt (v := ?_) 10 rfl (by kernel_rfl) (fun _ _ _ h => h) (by rfl) ?_ hHeld ?_
          rotate_left
          · intro w' hSw
            go_simp <;> with_reducible rfl
          try simp only [Act.put, List.setIfInBounds_toArray, List.set_cons_zero, List.set_cons_succ]
          refine wpXl 11 rfl (by kernel_rfl) rfl (by kernel_rfl) (fun K hK => ?_)
          go_simp
          refine hK.out _ _ ?_
          clear hK K
          --CUTR
          go_wp2
          exact ⟨⟨j + 1, by omega, by simp, HE.out⟩, by simp [intOf]; omega⟩
        · rw [hcm] at hlk
          have HS : Hid ((fun w' => w'.cell? ⟨Y, 0, none⟩ = some (.pointer (some ⟨X, 0, none⟩)) ∧ w'.cell? ⟨X, 3, none⟩ = some (.map (some bc)) ∧ w'.cell? ⟨HB, 0, none⟩ = some (.int .i64 h0) ∧ w'.cell? ⟨HB, 1, none⟩ = some (.int .i64 h1) ∧ w'.cell? ⟨M, 3, none⟩ = some (.int .i64 m.dst.kind) ∧ w'.cell? ⟨M, 4, none⟩ = some (.int .i64 m.dst.cls) ∧ w'.cell? ⟨M, 5, none⟩ = some (.int .i64 m.dst.n) ∧ (Instr.lookup 40 (.map (some bc)) (.agg #[.int .i64 m.dst.kind, .int .i64 m.dst.cls, .int .i64 m.dst.n]) false).run Try.prog w' = .ok (.int .i64 1) w') w3.drew) := ⟨hY3, k3.bx.cell (i := 3) (by omega), x0, x1, (hd3.cell (p := ⟨M, 3, none⟩) zM3).trans m3, (hd3.cell (p := ⟨M, 4, none⟩) zM3).trans m4, (hd3.cell (p := ⟨M, 5, none⟩) zM3).trans m5, hlk⟩
          have HE : Hid (PtI W Y HB cl (ring.take (j + 1)) (w3.drew.setCell ⟨HB, 1, none⟩ (.int .i64 (h1 + 1)))) := by
            rw [HT.out, ← hh1]
            exact I3.hop HHP.out (c := 1) hcm (by omega)
          clear hh0 hh1 I3 hd3 k3 hY3 HII hY2 k2 zM zM3 hlk hcm hfm hwm x0 x1
          refine wp_region_X (fun w' => w'.cell? ⟨Y, 0, none⟩ = some (.pointer (some ⟨X, 0, none⟩)) ∧ w'.cell? ⟨X, 3, none⟩ = some (.map (some bc)) ∧ w'.cell? ⟨HB, 0, none⟩ = some (.int .i64 h0) ∧ w'.cell? ⟨HB, 1, none⟩ = some (.int .i64 h1) ∧ w'.cell? ⟨M, 3, none⟩ = some (.int .i64 m.dst.kind) ∧ w'.cell? ⟨M, 4, none⟩ = some (.int .i64 m.dst.cls) ∧ w'.cell? ⟨M, 5, none⟩ = some (.int .i64 m.dst.n) ∧ (Instr.lookup 40 (.map (some bc)) (.agg #[.int .i64 m.dst.kind, .int .i64 m.dst.cls, .int .i64 m.dst.n]) false).run Try.prog w' = .ok (.int .i64 1) w') 11 (by kernel_rfl) HS.out (fun hHeld => ?_)
          refine wpXt (v := ?_) 0 rfl (by kernel_rfl) (fun _ _ _ h => h) (by rfl) ?_ hHeld ?_
          rotate_left
          · intro w' hSw
            go_simp <;> with_reducible rfl
          try simp only [Act.put, List.setIfInBounds_toArray, List.set_cons_zero, List.set_cons_succ]
          refine wpXt (v := ?_) 1 rfl (by kernel_rfl) (fun _ _ _ h => h) (by rfl) ?_ hHeld ?_
          rotate_left
          · intro w' hSw
            go_simp <;> with_reducible rfl
          try simp only [Act.put, List.setIfInBounds_toArray, List.set_cons_zero, List.set_cons_succ]
          refine wpXt (v := ?_) 2 rfl (by kernel_rfl) (fun _ _ _ h => h) (by rfl) ?_ hHeld ?_
          rotate_left
          · intro w' hSw
            go_simp <;> with_reducible rfl
          try simp only [Act.put, List.setIfInBounds_toArray, List.set_cons_zero, List.set_cons_succ]
          refine wpXt (v := ?_) 3 rfl (by kernel_rfl) (fun _ _ _ h => h) (by rfl) ?_ hHeld ?_
          rotate_left
          · intro w' hSw
            go_simp <;> with_reducible rfl
          try simp only [Act.put, List.setIfInBounds_toArray, List.set_cons_zero, List.set_cons_succ]
          refine wpXt (v := ?_) 4 rfl (by kernel_rfl) (fun _ _ _ h => h) (by rfl) ?_ hHeld ?_
          rotate_left
          · intro w' hSw
            go_simp <;> with_reducible rfl
          try simp only [Act.put, List.setIfInBounds_toArray, List.set_cons_zero, List.set_cons_succ]
          refine wpXt (v := ?_) 5 rfl (by kernel_rfl) (fun _ _ _ h => h) (by rfl) ?_ hHeld ?_
          rotate_left
          · intro w' hSw
            go_simp <;> with_reducible rfl
          try simp only [Act.put, List.setIfInBounds_toArray, List.set_cons_zero, List.set_cons_succ]
          refine wpXt (v := .int .i64 1) 6 rfl (by kernel_rfl) (fun _ _ _ h => h) (by rfl) ?_ hHeld ?_
          · intro w' hSw
            exact execO_lookup _ _ _ _ rfl rfl rfl hSw.2.2.2.2.2.2.2
          try simp only [Act.put, List.setIfInBounds_toArray, List.set_cons_zero, List.set_cons_succ]
          refine wpXt (v := ?_) 7 rfl (by kernel_rfl) (fun _ _ _ h => h) (by rfl) ?_ hHeld ?_
          rotate_left
          · intro w' hSw
            go_simp <;> with_reducible rfl
          try simp only [Act.put, List.setIfInBounds_toArray, List.set_cons_zero, List.set_cons_succ]
          refine wpXt (v := ?_) 8 rfl (by kernel_rfl) (fun _ _ _ h => h) (by rfl) ?_ hHeld ?_
          rotate_left
          · intro w' hSw
            go_simp <;> with_reducible rfl
          try simp only [Act.put, List.setIfInBounds_toArray, List.set_cons_zero, List.set_cons_succ]
          refine wpXt (v := ?_) 9 rfl (by kernel_rfl) (fun _ _ _ h => h) (by rfl) ?_ hHeld ?_
          rotate_left
          · intro w' hSw
            go_simp <;> with_reducible rfl
          try simp only [Act.put, List.setIfInBounds_toArray, List.set_cons_zero, List.set_cons_succ]
          refine wpXt (v := ?_) 10 rfl (by kernel_rfl) (fun _ _ _ h => h) (by rfl) ?_ hHeld ?_
          rotate_left
          · intro w' hSw
            go_simp <;> with_reducible rfl
          try simp only [Act.put, List.setIfInBounds_toArray, List.set_cons_zero, List.set_cons_succ]
          refine wpXl 11 rfl (by kernel_rfl) rfl (by kernel_rfl) (fun K hK => ?_)
          go_simp
          refine hK.out _ _ ?_
          clear hK K
          --CUTR
          go_wp2
          exact ⟨⟨j + 1, by omega, by simp, HE.out⟩, by simp [intOf]; omega⟩
    · have hjn : j = n := by omega
      subst hjn
      have I3 := HI.out
      rw [List.take_of_length_le (by rw [HL.out.2.1]; exact Nat.le_refl _)] at I3
      have hsl : SlOf wr 6 RMv (.slice a j c) ring := HL.out.1.below hlow fun _ _ h => h
      have hr5 : ring.length ≤ 5000 := by rw [HL.out.2.1]; exact hn5
      have HKK : Hid (∀ m ∈ ring, ∀ w', Below wr.heap.size wr w' → Calls Try.prog 28 #[.agg #[.int .i64 m.src.kind, .int .i64 m.src.cls, .int .i64 m.src.n, .int .i64 m.dst.kind, .int .i64 m.dst.cls, .int .i64 m.dst.n], .pointer (some ⟨HB, 0, none⟩), .pointer (some ⟨Y, 0, none⟩)] w' fun e w'' => e = .returned (.bool (keepB cl ring m)) ∧ Below w'.heap.size w' w'') := fun m hm w' hh => by
        obtain ⟨hwm, hcm, hfm⟩ := HL.out.2.2.2 m hm
        refine keeps_any (k1.below hh) Y HB (hopC cl ring 0) (hopC cl ring 1) ((hh.cell (block_lt hY1)).trans hY1) (I3.hops.of_block (hh.block _ I3.hops.lt)) m hwm (cl m.dst) hcm hfm _ ?_
        unfold keepB
        rcases hcm with e | e <;> rw [e] <;> simp
      have HIX := indexFunc_any (.slice a j c) ring hr5 (keepB cl ring) HB Y wr hsl HKK
      have rR1 := HTY.out.2.of_block (HI.out.block R (by omega) (by omega))
      have HRR : Hid (wr.rowIs R 26 3 (plF ⟨0, 0, 0⟩)) := rR1
      have HLW : Hid (Below w.heap.size w wr) := hlow
      have HK1 : Hid (WoS X bc bl br B r0 r1 fr nC fC nL nR left rd vd done wr) := k1
      have HY1 : Hid (wr.cell? ⟨Y, 0, none⟩ = some (.pointer (some ⟨X, 0, none⟩))) := hY1
      have HSL : Hid (SlOf wr 6 RMv (.slice a j c) ring) := hsl
      clear HI I3 hsl hr5 HKK rR1 hlow k1 hY1 eY eR eH zW
      unfold ixI at HIX
      --CUT3
      cases hix : ring.findIdx? (keepB cl ring) with
      | none =>
        rw [hix] at HIX
        simp only at HIX
        have HE : Hid (∃ x0, ring[0]? = some x0 ∧ AsideP r0 r1 fr cl x0 (ring.drop (0 + 1) ++ ring.take 0) ⟨2, 0, fr⟩) := by
          obtain ⟨x0, r, hx⟩ := List.exists_cons_of_ne_nil HL.out.2.2.1
          exact ⟨x0, by rw [hx]; rfl, Or.inl rfl⟩
        clear hix
        go_upto_region 12 with (go_at_call 29; refine HIX.mono ?_; clear HIX; rintro e w2 ⟨rfl, hb2⟩)
        have k2 := HK1.out.below hb2
        have y2 := (hb2.cell (block_lt HY1.out)).trans HY1.out
        have x2 : w2.cell? ⟨X, 2, none⟩ = some (.int .i64 fr) := k2.bx.cell (i := 2) (by omega)
        have HSL2 := slot_any fr w2
        have rR2 := HRR.out.of_block (hb2.block _ HRR.out.lt)
        --CUT4
        go_wp2_with (go_at_call 30; refine HSL2.mono ?_; clear HSL2; rintro e w3 ⟨rfl, hb3⟩; have rR3 := rR2.of_block (hb3.block _ rR2.lt); have f0 := rR3.frozen 0; have f1 := rR3.frozen 1; have f2 := rR3.frozen 2; have c0 : w3.cell? ⟨R, 0, none⟩ = some (.int .i64 0) := rR3.cell (i := 0) (by omega); have c1 : w3.cell? ⟨R, 1, none⟩ = some (.int .i64 0) := rR3.cell (i := 1) (by omega); have c2 : w3.cell? ⟨R, 2, none⟩ = some (.int .i64 0) := rR3.cell (i := 2) (by omega))
        --CUT5
        obtain ⟨x0, hx0, ha0⟩ := HE.out
        have hwR : w.heap.size ≤ R := by have := HN.out; omega
        have hb5 : Below w.heap.size w w3 := HLW.out.trans ((hb2.trans (hb3.mono hb2.size)).mono HLW.out.size)
        refine bodyPost_ret (v := .tuple #[.int .i64 (0 : Nat), .agg #[.int .i64 2, .int .i64 0, .int .i64 fr]]) (by simp [results, Try.results26, go_sem, c0, c1, c2]) rfl ⟨((hb5.setCell hwR _).setCell hwR _).setCell hwR _, 0, ⟨2, 0, fr⟩, x0, rfl, hx0, ha0⟩
      | some i0 =>
        rw [hix] at HIX
        simp only at HIX
        obtain ⟨hi0, hk0, -⟩ := List.findIdx?_eq_some_iff_getElem.1 hix
        obtain ⟨m, hm⟩ : ∃ m, ring[i0] = m := ⟨_, rfl⟩
        obtain ⟨hwm, hcm, hfm⟩ := HL.out.2.2.2 _ (List.getElem_mem hi0)
        rw [hm] at hwm hcm hfm hk0
        have hij : i0 < j := by have := HL.out.2.1; omega
        obtain ⟨b8, off8, rfl, hb8, -, -, -, e3, e4, e5⟩ := mv_at HSL.out i0 hi0
        rw [hm] at e3 e4 e5
        have HE : Hid (∃ aside, aside = scrP (regsR r0 r1) (cl m.dst) ∧ ring[i0]? = some m ∧ AsideP r0 r1 fr cl m (ring.drop (i0 + 1) ++ ring.take i0) aside) := by
          refine ⟨_, rfl, by rw [List.getElem?_eq_getElem hi0, hm], Or.inr ⟨rfl, ?_⟩⟩
          have hsplit : ring = ring.take i0 ++ m :: ring.drop (i0 + 1) := by
            rw [← hm, ← List.drop_eq_getElem_cons hi0, List.take_append_drop]
          refine aside_keep (l1 := ring.take i0) (l2 := ring.drop (i0 + 1)) ?_
          rw [← hsplit]
          exact hk0
        have HIJ : Hid (i0 < ring.length) := hi0
        clear hix hk0 hm hi0
        obtain ⟨k, hk⟩ : ∃ k, i0 = k := ⟨_, rfl⟩
        subst hk
        go_upto_region 11 with (go_at_call 29; refine HIX.mono ?_; clear HIX; rintro e w2 ⟨rfl, hb2⟩)
        have HSS : Hid (∀ w', Below w2.heap.size w2 w' → (fun w' => w'.cell? ⟨Y, 0, none⟩ = some (.pointer (some ⟨X, 0, none⟩)) ∧ w'.cell? ⟨X, 3, none⟩ = some (.map (some bc)) ∧ w'.cell? ⟨X, 0, none⟩ = some (.int .i64 r0) ∧ w'.cell? ⟨X, 1, none⟩ = some (.int .i64 r1) ∧ w'.cell? ⟨b8, off8 + i0 * 6 + 3, none⟩ = some (.int .i64 m.dst.kind) ∧ w'.cell? ⟨b8, off8 + i0 * 6 + 4, none⟩ = some (.int .i64 m.dst.cls) ∧ w'.cell? ⟨b8, off8 + i0 * 6 + 5, none⟩ = some (.int .i64 m.dst.n) ∧ (Instr.lookup 40 (.map (some bc)) (.agg #[.int .i64 m.dst.kind, .int .i64 m.dst.cls, .int .i64 m.dst.n]) false).run Try.prog w' = .ok (.int .i64 (cl m.dst)) w') w') := fun w' hh => by
          have hh2 := hb2.trans (hh.mono hb2.size)
          have kk := HK1.out.below hh2
          refine ⟨(hh2.cell (block_lt HY1.out)).trans HY1.out, kk.bx.cell (i := 3) (by omega), kk.bx.cell (i := 0) (by omega), kk.bx.cell (i := 1) (by omega), (hh2.cell (p := ⟨b8, _, none⟩) hb8).trans e3, (hh2.cell (p := ⟨b8, _, none⟩) hb8).trans e4, (hh2.cell (p := ⟨b8, _, none⟩) hb8).trans e5, ?_⟩
          have h := kk.mc.look Try.underlying40 (zeroI w') hwm
          rw [hfm] at h
          exact h
        have HSC := scratch_any (cl m.dst) r0 r1 hcm w2.drew
        have rR2 := HRR.out.of_block (hb2.block _ HRR.out.lt)
        have hd2 : Below w2.heap.size w2 w2.drew := (Below.refl _ _).drew
        obtain ⟨cc, hcc⟩ : ∃ cc, cl m.dst = cc := ⟨_, rfl⟩
        rw [hcc] at HSC HE hfm
        have HSS' := HSS
        rw [hcc] at HSS'
        clear HSS
        have HCC : Hid (cl m.dst = cc) := hcc
        rw [hcc] at hcm
        clear hcc
        --CUT6
        refine wp_region_X (fun w' => w'.cell? ⟨Y, 0, none⟩ = some (.pointer (some ⟨X, 0, none⟩)) ∧ w'.cell? ⟨X, 3, none⟩ = some (.map (some bc)) ∧ w'.cell? ⟨X, 0, none⟩ = some (.int .i64 r0) ∧ w'.cell? ⟨X, 1, none⟩ = some (.int .i64 r1) ∧ w'.cell? ⟨b8, off8 + i0 * 6 + 3, none⟩ = some (.int .i64 m.dst.kind) ∧ w'.cell? ⟨b8, off8 + i0 * 6 + 4, none⟩ = some (.int .i64 m.dst.cls) ∧ w'.cell? ⟨b8, off8 + i0 * 6 + 5, none⟩ = some (.int .i64 m.dst.n) ∧ (Instr.lookup 40 (.map (some bc)) (.agg #[.int .i64 m.dst.kind, .int .i64 m.dst.cls, .int .i64 m.dst.n]) false).run Try.prog w' = .ok (.int .i64 cc) w') 17 (by kernel_rfl) (HSS'.out _ hd2) (fun hHeld => ?_)
        refine wpXt (v := ?_) 0 rfl (by kernel_rfl) (fun _ _ _ h => h) (by rfl) ?_ hHeld ?_
        rotate_left
        · intro w' hSw
          go_simp <;> with_reducible rfl
        try simp only [Act.put, List.setIfInBounds_toArray, List.set_cons_zero, List.set_cons_succ]
        refine wpXt (v := ?_) 1 rfl (by kernel_rfl) (fun _ _ _ h => h) (by rfl) ?_ hHeld ?_
        rotate_left
        · intro w' hSw
          go_simp <;> with_reducible rfl
        try simp only [Act.put, List.setIfInBounds_toArray, List.set_cons_zero, List.set_cons_succ]
        refine wpXt (v := ?_) 2 rfl (by kernel_rfl) (fun _ _ _ h => h) (by rfl) ?_ hHeld ?_
        rotate_left
        · intro w' hSw
          go_simp <;> with_reducible rfl
        try simp only [Act.put, List.setIfInBounds_toArray, List.set_cons_zero, List.set_cons_succ]
        refine wpXt (v := ?_) 3 rfl (by kernel_rfl) (fun _ _ _ h => h) (by rfl) ?_ hHeld ?_
        rotate_left
        · intro w' hSw
          go_simp <;> with_reducible rfl
        try simp only [Act.put, List.setIfInBounds_toArray, List.set_cons_zero, List.set_cons_succ]
        refine wpXt (v := ?_) 4 rfl (by kernel_rfl) (fun _ _ _ h => h) (by rfl) ?_ hHeld ?_
        rotate_left
        · intro w' hSw
          go_simp <;> with_reducible rfl
        try simp only [Act.put, List.setIfInBounds_toArray, List.set_cons_zero, List.set_cons_succ]
        refine wpXt (v := ?_) 5 rfl (by kernel_rfl) (fun _ _ _ h => h) (by rfl) ?_ hHeld ?_
        rotate_left
        · intro w' hSw
          go_simp <;> with_reducible rfl
        try simp only [Act.put, List.setIfInBounds_toArray, List.set_cons_zero, List.set_cons_succ]
        refine wpXt (v := ?_) 6 rfl (by kernel_rfl) (fun _ _ _ h => h) (by rfl) ?_ hHeld ?_
        rotate_left
        · intro w' hSw
          go_simp <;> with_reducible rfl
        try simp only [Act.put, List.setIfInBounds_toArray, List.set_cons_zero, List.set_cons_succ]
        refine wpXt (v := ?_) 7 rfl (by kernel_rfl) (fun _ _ _ h => h) (by rfl) ?_ hHeld ?_
        rotate_left
        · intro w' hSw
          go_simp <;> with_reducible rfl
        try simp only [Act.put, List.setIfInBounds_toArray, List.set_cons_zero, List.set_cons_succ]
        refine wpXt (v := ?_) 8 rfl (by kernel_rfl) (fun _ _ _ h => h) (by rfl) ?_ hHeld ?_
        rotate_left
        · intro w' hSw
          go_simp <;> with_reducible rfl
        try simp only [Act.put, List.setIfInBounds_toArray, List.set_cons_zero, List.set_cons_succ]
        refine wpXt (v := ?_) 9 rfl (by kernel_rfl) (fun _ _ _ h => h) (by rfl) ?_ hHeld ?_
        rotate_left
        · intro w' hSw
          go_simp <;> with_reducible rfl
        try simp only [Act.put, List.setIfInBounds_toArray, List.set_cons_zero, List.set_cons_succ]
        refine wpXt (v := .int .i64 cc) 10 rfl (by kernel_rfl) (fun _ _ _ h => h) (by rfl) ?_ hHeld ?_
        · intro w' hSw
          exact execO_lookup _ _ _ _ rfl rfl rfl hSw.2.2.2.2.2.2.2
        try simp only [Act.put, List.setIfInBounds_toArray, List.set_cons_zero, List.set_cons_succ]
        refine wpXt (v := ?_) 11 rfl (by kernel_rfl) (fun _ _ _ h => h) (by rfl) ?_ hHeld ?_
        rotate_left
        · intro w' hSw
          go_simp <;> with_reducible rfl
        try simp only [Act.put, List.setIfInBounds_toArray, List.set_cons_zero, List.set_cons_succ]
        refine wpXt (v := ?_) 12 rfl (by kernel_rfl) (fun _ _ _ h => h) (by rfl) ?_ hHeld ?_
        rotate_left
        · intro w' hSw
          go_simp <;> with_reducible rfl
        try simp only [Act.put, List.setIfInBounds_toArray, List.set_cons_zero, List.set_cons_succ]
        refine wpXt (v := ?_) 13 rfl (by kernel_rfl) (fun _ _ _ h => h) (by rfl) ?_ hHeld ?_
        rotate_left
        · intro w' hSw
          go_simp <;> with_reducible rfl
        try simp only [Act.put, List.setIfInBounds_toArray, List.set_cons_zero, List.set_cons_succ]
        refine wpXt (v := ?_) 14 rfl (by kernel_rfl) (fun _ _ _ h => h) (by rfl) ?_ hHeld ?_
        rotate_left
        · intro w' hSw
          go_simp <;> with_reducible rfl
        try simp only [Act.put, List.setIfInBounds_toArray, List.set_cons_zero, List.set_cons_succ]
        refine wpXs 15 rfl (by kernel_rfl) (fun K hK => ?_)
        go_simp
        refine HSC.mono ?_
        clear HSC
        rintro e w3 ⟨rfl, hb3⟩
        have hb23 := hd2.trans (hb3.mono hd2.size)
        have rR3 := rR2.of_block (hb23.block _ rR2.lt)
        have f0 := rR3.frozen 0
        have f1 := rR3.frozen 1
        have f2 := rR3.frozen 2
        have c0 : w3.cell? ⟨R, 0, none⟩ = some (.int .i64 0) := rR3.cell (i := 0) (by omega)
        have c1 : w3.cell? ⟨R, 1, none⟩ = some (.int .i64 0) := rR3.cell (i := 1) (by omega)
        have c2 : w3.cell? ⟨R, 2, none⟩ = some (.int .i64 0) := rR3.cell (i := 2) (by omega)
        refine hK.out _ _ (HSS'.out _ hb23) (fun hHeld => ?_)
        clear hK K
        try simp only [Act.put, List.setIfInBounds_toArray, List.set_cons_zero, List.set_cons_succ]
        refine wpXt (v := ?_) 16 rfl (by kernel_rfl) (fun _ _ _ h => h) (by rfl) ?_ hHeld ?_
        rotate_left
        · intro w' hSw
          go_simp <;> with_reducible rfl
        try simp only [Act.put, List.setIfInBounds_toArray, List.set_cons_zero, List.set_cons_succ]
        refine wpXl 17 rfl (by kernel_rfl) rfl (by kernel_rfl) (fun K hK => ?_)
        go_simp
        refine hK.out _ _ ?_
        clear hK K
        --CUT7
        go_wp2
        obtain ⟨aside, hae, hx0, ha0⟩ := HE.out
        have hwR : w.heap.size ≤ R := by have := HN.out; omega
        have hb5 : Below w.heap.size w w3 := HLW.out.trans ((hb2.trans (hb23.mono hb2.size)).mono HLW.out.size)
        refine bodyPost_ret (v := .tuple #[.int .i64 (i0 : Int), .agg #[.int .i64 1, .int .i64 cc, .int .i64 (regsR r0 r1 cc)]]) (by simp [results, Try.results26, go_sem, c0, c1, c2]) rfl ⟨((hb5.setCell hwR _).setCell hwR _).setCell hwR _, i0, aside, ?_⟩
        subst hae
        first | exact ⟨m, rfl, hx0, ha0⟩ | exact ⟨rfl, m, hx0, ha0⟩
end Go.Proofs.Ytdlglinbjkaokab
