/-
  The walk of MachJunk: what is spoilt has junk.
-/
import Derived.Test.YtjbjnndmpheedaaG4
import Derived.OpenShut
import Derived.Deep.QuietTactic
import Derived.BigQuiet
namespace Go.Proofs.Ytjbjnndmpheedaa
open Go.RowKit Go.ChangeShapes Go.WideShapes
set_option linter.unusedVariables false

set_option maxHeartbeats 2000000 in
theorem sameInts_true (l : List Int) (a b : Option Addr) (n c d : Nat) (w : World) (hn : l.length = n) (h1 : SlOf w 1 RInt (.slice a n c) l) (h2 : SlOf w 1 RInt (.slice b n d) l) :
    Calls Try.prog 16 #[.slice a n c, .slice b n d] w fun e w' => e = .returned (.bool true) ∧ Below w.heap.size w w' := by
  subst hn
  have lb : l.length ≤ longest := by
    obtain ⟨_, _, _, h⟩ := h1.out
    exact h
  unfold longest at lb
  have HA : Hid (SlOf w 1 RInt (.slice a l.length c) l) := h1
  have HB : Hid (SlOf w 1 RInt (.slice b l.length d) l) := h2
  clear h1 h2
  go_enter Try.func16, Try.ntmps16
  go_wp2_with fail
  go_loopw [5] (fun i wr => ∃ k : Nat, k ≤ l.length ∧ i = .int .i64 k ∧ Below w.heap.size w wr) (fun i _ => l.length - (intOf i).toNat)
  case atStart => exact ⟨0, Nat.zero_le _, rfl, Below.refl _ _⟩
  case round =>
    obtain ⟨k, hk, rfl, hbr⟩ := hrel
    by_cases hlt : k < l.length
    · obtain ⟨b1, o1, rfl, hb1, hc1⟩ := ints_at HA.out k (by omega) (by omega)
      obtain ⟨b2, o2, rfl, hb2, hc2⟩ := ints_at HB.out k (by omega) (by omega)
      rw [Int.toNat_natCast] at hc1 hc2
      have e1 := (hbr.cell (p := ⟨b1, o1 + k, none⟩) hb1).trans hc1
      have e2 := (hbr.cell (p := ⟨b2, o2 + k, none⟩) hb2).trans hc2
      clear hc1 hc2
      generalize l.getD k 0 = x at *
      go_wp2_with fail
      go_quiet (fail)
      go_wp2
      go_roundw
      case rel => exact ⟨k + 1, by omega, by go_num, below_drewN hbr _⟩
      case measure => simp [intOf]; omega
    · go_wp2
      go_ret
      exact ⟨rfl, hbr⟩
theorem sl_rowM {α : Type} {w : World} {b T m k n c : Nat} {f : Nat → Value} {R : List Value → α → Prop} {l : List α} (hrow : w.rowIs b T m f) (hn : l.length = n) (hm : n * k ≤ m) (hlong : n ≤ longest) (hR : ∀ i (h : i < l.length), R ((List.range k).map fun j => f (i * k + j)) l[i]) : SlOf w k R (.slice (some ⟨b, 0, none⟩) n c) l := by
  subst hn
  refine ⟨_, c, rfl, hlong, Or.inr ⟨b, 0, rfl, fun i hi => ⟨_, by simp, hR i hi, fun j hj => ?_⟩⟩⟩
  have hj' : j < k := by simpa using hj
  have h1 : i * k + k ≤ l.length * k := by
    have := Nat.mul_le_mul_right k (show i + 1 ≤ l.length by omega)
    rw [Nat.add_mul, Nat.one_mul] at this
    exact this
  have h2 := hrow.cell (i := i * k + j) (by omega)
  simp only [Nat.zero_add, List.getElem_map, List.getElem_range]
  exact h2
theorem pl3_sl {B : Nat} {pa pb : Pl} {b1 b2 b3 b4 : Nat} {w : World} (h : Pl3 B pa pb b1 b2 b3 b4 w) : SlOf w 1 (RPss w) (.slice (some ⟨b1, 0, none⟩) 1 1) (mjP pa pb) := by
  have h3 : SlOf w 3 RPl (.slice (some ⟨b3, 0, none⟩) 1 1) [pa] := sl_rowM h.r3 rfl (by omega) (by decide) fun i hi => by
    match i, hi with | 0, _ => rfl
  have h4 : SlOf w 3 RPl (.slice (some ⟨b4, 0, none⟩) 1 1) [pb] := sl_rowM h.r4 rfl (by omega) (by decide) fun i hi => by
    match i, hi with | 0, _ => rfl
  have h2 : SlOf w 1 (RPs w) (.slice (some ⟨b2, 0, none⟩) 3 3) [[pa], [], [pb]] := sl_rowM h.r2 rfl (by omega) (by decide) fun i hi => by
    match i, hi with
    | 0, _ => exact ⟨_, rfl, h3⟩
    | 1, _ => exact ⟨_, rfl, sl_none _ _ _⟩
    | 2, _ => exact ⟨_, rfl, h4⟩
  exact sl_rowM h.r1 rfl (by omega) (by decide) fun i hi => by
    match i, hi with | 0, _ => exact ⟨_, rfl, h2⟩
theorem PairR.all {w0 w : World} {blk : Blk} {pa pb : Pl} {bv bb b1 b2 b3 b4 : Nat} (h : PairR w0 blk pa pb bv bb b1 b2 b3 b4 w) : SlOf w 1 RInt (.slice (some ⟨bv, 0, none⟩) 1 1) [0] ∧ SlOf w 3 (RBlk w) (.slice (some ⟨bb, 0, none⟩) 1 1) [blk] ∧ SlOf w 1 (RPss w) (.slice (some ⟨b1, 0, none⟩) 1 1) (mjP pa pb) := by
  obtain ⟨B, _, hp, wq, h1, h2, h3⟩ := h.pls
  have hc := h3 w fun _ _ => rfl
  exact ⟨hc.sl h1 fun _ _ h => h, hc.sl h2 hc.blk, pl3_sl hp⟩
theorem junkL_succ (b : Int) (n : Nat) : junkL b (n + 1) = junkL b n ++ [b + (n : Int)] := by unfold junkL; rw [List.range_succ, List.map_append]; rfl
theorem junkL_len (b : Int) (n : Nat) : (junkL b n).length = n := by unfold junkL; simp
theorem reads_three {s : Ms} {a b c : List Int} (h : readsOf s = [a, b, c]) : s.evs.length = 3 ∧ ∃ h2 : 2 < s.evs.length, s.evs[2].read = c := by
  unfold readsOf at h
  have hl : s.evs.length = 3 := by have := congrArg List.length h; simpa using this
  refine ⟨hl, by omega, ?_⟩
  have h3 : (s.evs.map fun e => e.read)[2]? = some c := by rw [h]; rfl
  rw [List.getElem?_map, List.getElem?_eq_getElem (by omega)] at h3
  simpa using h3

set_option maxRecDepth 8000 in
set_option maxHeartbeats 16000000 in
theorem machJunk_walk (n : Int) (wn : (Lit.int .i64 n).wf = true) (seed : Int) (ws : (Lit.int .i64 seed).wf = true) (w : World) :
    Calls Try.prog 5 #[.int .i64 n, .int .i64 seed] w fun e w' => e = .returned (.bool true) ∧ Below w.heap.size w w' := by
  obtain ⟨n0, n1⟩ := bounds_i64 wn
  obtain ⟨p0, p1⟩ := pickedOf_bd n 5 (by decide)
  obtain ⟨k, hk⟩ : ∃ k : Nat, pickedOf n 5 = (k : Int) := ⟨(pickedOf n 5).toNat, by omega⟩
  have hk5 : k < 5 := by omega
  have HPK : Hid (pickedOf n 5 = (k : Int)) := hk
  have HCP := picked_is n 5 (k : Int) w hk (by omega) (by omega) (by omega) (by omega)
  clear p0 p1 hk
  go_enter Try.func5, Try.ntmps5
  --CUT0
  go_wp2_with fail
  refine HCP.mono ?_
  clear HCP
  rintro e w1 ⟨rfl, hw1⟩
  rw [hw1]
  clear hw1 w1
  obtain ⟨W2, hW2⟩ : ∃ W2, W2 = w.alloc (.cells #[.int .i64 0, .int .i64 (k : Int)] 62) := ⟨_, rfl⟩
  obtain ⟨Z, hZ⟩ : ∃ Z, w.heap.size = Z := ⟨_, rfl⟩
  have b2 : Below w.heap.size w W2 := by rw [hW2]; exact (Below.refl _ _).alloc (Nat.le_refl _) _
  have hsp : SlOf W2 2 RRg (.slice (some ⟨Z, 0, none⟩) 1 1) [⟨0, (k : Int)⟩] := by
    rw [hW2, ← hZ]
    exact sl_newL [[.int .i64 0, .int .i64 (k : Int)]] [(⟨0, (k : Int)⟩ : Rg)] rfl (by simp) rfl (by simp) (fun i h h' => by
      match i, h with
      | 0, _ => rfl) (by decide)
  have HW2 : Hid (W2 = w.alloc (.cells #[.int .i64 0, .int .i64 (k : Int)] 62)) := hW2
  have HZ : Hid (w.heap.size = Z) := hZ
  have HB2 : Hid (Below w.heap.size w W2) := b2
  have HSP : Hid (SlOf W2 2 RRg (.slice (some ⟨Z, 0, none⟩) 1 1) [⟨0, (k : Int)⟩]) := hsp
  clear hW2 hZ b2 hsp
  go_wp2_with fail
  --CUT1
  rw [← HW2.out, HZ.out]
  clear HW2 HZ
  refine (reg_any _ W2).mono ?_
  rintro e w3 ⟨rfl, b3⟩
  go_wp2_with fail
  refine (reg_any _ w3).mono ?_
  rintro e w4 ⟨rfl, b4⟩
  have HB4 : Hid (Below w.heap.size w w4 ∧ Below W2.heap.size W2 w4) := by
    have h24 := b3.trans (b4.mono b3.size)
    exact ⟨HB2.out.trans (h24.mono HB2.out.size), h24⟩
  clear b3 b4
  have HP : Calls Try.prog 12 #[.agg #[.int .i64 2, .slice none 0 0, .slice (some ⟨Z, 0, none⟩) 1 1], .agg #[.int .i64 1, .int .i64 0, .int .i64 (k : Int)], .agg #[.int .i64 1, .int .i64 0, .int .i64 (k : Int)], .slice none 0 0] w4 _ := mpair_any 2 none (some ⟨Z, 0, none⟩) none 0 0 1 1 0 0 [] [⟨0, (k : Int)⟩] (rgP k) (rgP k) w4 (sl_none _ _ _) (HSP.out.below HB4.out.2 fun _ _ h => h)
  go_wp2_with fail
  refine HP.mono ?_
  clear HP
  rintro e w5 ⟨bv, bb, b1, b2, b3, b4, rfl, hp5⟩
  have HP5 : Hid (PairR w4 (mjBlk 2 [] [⟨0, (k : Int)⟩]) (rgP k) (rgP k) bv bb b1 b2 b3 b4 w5) := hp5
  clear hp5
  go_upto_region 3 with fail
  have hall := HP5.out.all
  have HB5 : Hid (Below w.heap.size w w5) := HB4.out.1.trans (HP5.out.low.mono HB4.out.1.size)
  obtain ⟨W6, hW6⟩ : ∃ W6, W6 = (w5.alloc (.cells #[.slice (some ⟨bv, 0, none⟩) 1 1, .slice (some ⟨bb, 0, none⟩) 1 1] 25)).alloc (.cells #[.slice (some ⟨b1, 0, none⟩) 1 1, .slice none 0 0, .int .i64 0] 32) := ⟨_, rfl⟩
  obtain ⟨X, hX⟩ : ∃ X, w5.heap.size = X := ⟨_, rfl⟩
  have b6 : Below w5.heap.size w5 W6 := by rw [hW6]; exact ((Below.refl _ _).alloc (Nat.le_refl _) _).alloc (by simp) _
  obtain ⟨t0, t1⟩ := two_at w5 #[.slice (some ⟨bv, 0, none⟩) 1 1, .slice (some ⟨bb, 0, none⟩) 1 1] #[.slice (some ⟨b1, 0, none⟩) 1 1, .slice none 0 0, .int .i64 0] 25 32
  rw [← hW6, hX] at t0 t1
  have z6 : X + 1 < W6.heap.size := by rw [hW6]; simp [hX]
  have HC6 : Hid (∀ w', Below W6.heap.size W6 w' → w'.cell? ⟨X, 0, none⟩ = some (.slice (some ⟨bv, 0, none⟩) 1 1) ∧ w'.cell? ⟨X, 1, none⟩ = some (.slice (some ⟨bb, 0, none⟩) 1 1) ∧ w'.cell? ⟨X + 1, 0, none⟩ = some (.slice (some ⟨b1, 0, none⟩) 1 1) ∧ w'.cell? ⟨X + 1, 1, none⟩ = some (.slice none 0 0) ∧ w'.cell? ⟨X + 1, 2, none⟩ = some (.int .i64 0)) := fun w' hh => ⟨(hh.cell (p := ⟨X, 0, none⟩) (show X < _ by omega)).trans (t0 0), (hh.cell (p := ⟨X, 1, none⟩) (show X < _ by omega)).trans (t0 1), (hh.cell (p := ⟨X + 1, 0, none⟩) z6).trans (t1 0), (hh.cell (p := ⟨X + 1, 1, none⟩) z6).trans (t1 1), (hh.cell (p := ⟨X + 1, 2, none⟩) z6).trans (t1 2)⟩
  have HA6 : Hid (SlOf W6 1 RInt (.slice (some ⟨bv, 0, none⟩) 1 1) [0] ∧ SlOf W6 3 (RBlk W6) (.slice (some ⟨bb, 0, none⟩) 1 1) [mjBlk 2 [] [⟨0, (k : Int)⟩]] ∧ SlOf W6 1 (RPss W6) (.slice (some ⟨b1, 0, none⟩) 1 1) (mjP (rgP k) (rgP k))) := ⟨hall.1.below b6 fun _ _ h => h, hall.2.1.below b6 (RBlk.below b6), hall.2.2.below b6 (RPss.below b6)⟩
  have HB6 : Hid (Below w.heap.size w W6) := HB5.out.trans (b6.mono HB5.out.size)
  have HW6 : Hid (W6 = (w5.alloc (.cells #[.slice (some ⟨bv, 0, none⟩) 1 1, .slice (some ⟨bb, 0, none⟩) 1 1] 25)).alloc (.cells #[.slice (some ⟨b1, 0, none⟩) 1 1, .slice none 0 0, .int .i64 0] 32)) := hW6
  have HX5 : Hid (w5.heap.size = X) := hX
  clear hall hW6 hX b6 t0 t1 HP5 HB4 HB5 HB2 HSP
  go_upto_region 4 with fail
  rw [← HW6.out, HX5.out]
  clear HW6 HX5 z6
  --CUT3
  go_wp2_with fail
  refine (big_any W6).mono ?_
  rintro e w7 ⟨rfl, b7⟩
  obtain ⟨W8, hW8⟩ : ∃ W8, W8 = w7.alloc (.cells #[.int .i64 10, .int .i64 10] 28) := ⟨_, rfl⟩
  obtain ⟨M, hM⟩ : ∃ M, w7.heap.size = M := ⟨_, rfl⟩
  have b8 : Below w7.heap.size w7 W8 := by rw [hW8]; exact (Below.refl _ _).alloc (Nat.le_refl _) _
  have t8 := top_at w7 #[.int .i64 10, .int .i64 10] 28
  rw [← hW8, hM] at t8
  have HB8 : Hid (Below W6.heap.size W6 W8) := b7.trans (b8.mono b7.size)
  have HM8 : Hid (∀ w', Below W8.heap.size W8 w' → w'.cell? ⟨M, 0, none⟩ = some (.int .i64 10) ∧ w'.cell? ⟨M, 1, none⟩ = some (.int .i64 10)) := fun w' hh => ⟨(hh.cell (p := ⟨M, 0, none⟩) (block_lt (t8 0))).trans (t8 0), (hh.cell (p := ⟨M, 1, none⟩) (block_lt (t8 0))).trans (t8 1)⟩
  have HW8 : Hid (W8 = w7.alloc (.cells #[.int .i64 10, .int .i64 10] 28)) := hW8
  have HMM : Hid (w7.heap.size = M) := hM
  obtain ⟨N8, hN8⟩ : ∃ N8, W8.heap.size = N8 := ⟨_, rfl⟩
  have HG0 : Hid (GrS W8 N8 (.slice none 0 0) (junkL 1000 0) W8) := by rw [← hN8]; exact GrS.nil W8
  have HN8 : Hid (W8.heap.size = N8) := hN8
  obtain ⟨i3, hi3, hz3, hz31, hz32⟩ := ru_parts ruInfo
  clear hW8 hM b7 b8 t8 hN8
  go_upto_region 5 with fail
  rw [← HW8.out, HMM.out]
  clear HW8 HMM
  --CUT4
  go_wp2_with fail
  go_loopw [10, 9] (fun i v wr => ∃ (j : Nat) (as' : Option Addr) (cs' : Nat), j ≤ 30 ∧ i = .int .i64 j ∧ v = .slice as' j cs' ∧ Hid (GrS W8 N8 (.slice as' j cs') (junkL 1000 j) wr)) (fun i _ _ => 30 - (intOf i).toNat)
  case atStart => exact ⟨0, none, 0, by omega, rfl, rfl, HG0⟩
  case round =>
    clear HG0
    obtain ⟨j, as', cs', hj, rfl, rfl, HI⟩ := hrel
    by_cases hlt : j < 30
    · have hji : (j : Int) < 30 := by omega
      have hle := HI.out.le
      have own := HI.out.own
      rw [junkL_len] at own
      have oA := own.alloc (.cells #[.int .i64 (1000 + (j : Int))] 3)
      --CUT5
      go_upto_region 9 with fail
      go_wp2_with (at_builtin; go_must (refine wpList_append_lies _ rfl _ _ 22 rfl N8 3 i3 (.int .i64 0) 1 8 Try.underlying22 hi3 hz3 hz31 hz32 rfl (by omega) (.slice as' j cs') j _ (by rfl) oA ⟨wr.heap.size, 0, none⟩ 1 1 [.int .i64 (1000 + (j : Int))] (by rfl) (by rfl) ?e1 ?e2 (by omega) ?e3 ?e4 ?e5 (wr.heap.size + 1) ?e6 ?_))
      rotate_left
      any_goals (first | (exact ru_news rfl) | rfl | (show Value.oneCell' _ = true; simp [Value.oneCell']) | (intro u hu; simp at hu; subst hu; rfl) | (unfold maxLen; omega) | omega | (simp; omega) | (simp; rfl) | (simp; done))
      intro g cap wb2 hown hgrow hat hgl
      have HP : Hid (GrS W8 N8 (.slice (some ⟨g, 0, none⟩) (j + 1) cap) (junkL 1000 (j + 1)) wb2) := by
        show GrS _ _ _ _ _
        rw [junkL_succ]
        exact (HI.out.below ((Below.refl _ _).alloc (Nat.le_refl _) _)).push (by rw [junkL_len]; rfl) hgrow hown
      clear hown hgrow hat hgl oA own hle HI
      go_wp2
      go_roundw
      case rel => exact ⟨j + 1, _, _, by omega, by go_num, rfl, HP⟩
      case measure => simp [intOf]; omega
    · have hj30 : j = 30 := by omega
      subst hj30
      have HJ : Hid (SlOf wr 1 RInt (.slice as' 30 cs') (junkL 1000 30)) := HI.out.sl (by rw [junkL_len]; decide)
      have blr : Below W8.heap.size W8 wr := by rw [HN8.out]; exact HI.out.low
      have b6r : Below W6.heap.size W6 wr := HB8.out.trans (blr.mono HB8.out.size)
      obtain ⟨c0, c1, d0, d1, d2⟩ := HC6.out wr b6r
      obtain ⟨y0, y1⟩ := HM8.out wr blr
      obtain ⟨R, hR⟩ : ∃ R, mrunM (mjF [⟨0, (k : Int)⟩]).blocks (mjP (rgP k) (rgP k)) [] seed (junkL 1000 30) (fillM (junkL 1000 30) 10 10 0) 9 = R := ⟨_, rfl⟩
      have hrd := mj_junkR seed k hk5
      rw [hR] at hrd
      obtain ⟨hl3, hl2, hr2⟩ := reads_three hrd
      have HRU := mrun_any (mjF [⟨0, (k : Int)⟩]) 1 1 9 0 10 10 1 0 30 1 1 1 0 cs' seed (mjP (rgP k) (rgP k)) [] (junkL 1000 30) (some ⟨bv, 0, none⟩) (some ⟨bb, 0, none⟩) (some ⟨b1, 0, none⟩) none as' (mj_junkE k hk5) rfl rfl (by omega) (by omega) wr (HA6.out.1.below b6r fun _ _ h => h) (HA6.out.2.1.below b6r (RBlk.below b6r)) (HA6.out.2.2.below b6r (RPss.below b6r)) rfl (sl_none _ _ _) rfl HJ.out (junkL_len _ _)
      rw [hR] at HRU
      have HRUN : Calls Try.prog 14 #[.agg #[.slice (some ⟨bv, 0, none⟩) 1 1, .slice (some ⟨bb, 0, none⟩) 1 1], .agg #[.int .i64 10, .int .i64 10], .agg #[.slice (some ⟨b1, 0, none⟩) 1 1, .slice none 0 0, .int .i64 0], .int .i64 seed, .slice as' 30 cs', .int .i64 9] wr _ := HRU
      have HRD : Hid (R.evs.length = 3 ∧ ∃ h2 : 2 < R.evs.length, R.evs[2].read = [1022]) := ⟨hl3, hl2, hr2⟩
      have HBR : Hid (Below w.heap.size w wr ∧ Below W8.heap.size W8 wr) := ⟨HB6.out.trans (b6r.mono HB6.out.size), blr⟩
      clear HI HJ blr b6r hR hrd hl3 hl2 hr2 HRU
      --CUT6
      go_wp2_with fail
      refine HRUN.mono ?_
      clear HRUN c0 c1 d0 d1 d2 y0 y1
      rintro e wf ⟨ae, ne, ce, hne, hnc, rfl, hse, hbf⟩
      have e3 : ne = 3 := hne.trans HRD.out.1
      subst e3
      obtain ⟨h2, hrd⟩ := HRD.out.2
      obtain ⟨be, offe, cse, rfl, _, ⟨vr, rfl, hvr⟩, hcell⟩ := hse.at 2 h2
      rw [hrd] at hvr
      obtain ⟨ar, cr, rfl, _⟩ := hvr.out
      have x2 := hcell 2 (by simp)
      simp at x2
      have blf : Below W8.heap.size W8 wf := HBR.out.2.trans (hbf.mono HBR.out.2.size)
      obtain ⟨y0, y1⟩ := HM8.out wf blf
      have HVR : Hid (SlOf wf 1 RInt (.slice ar 1 cr) [1022]) := hvr
      have HBF : Hid (Below w.heap.size w wf) := HBR.out.1.trans (hbf.mono HBR.out.1.size)
      have HSF : Hid (∀ w', Below wf.heap.size wf w' → (fun w' => w'.cell? ⟨be, offe + 2 * 4 + 2, none⟩ = some (.slice ar 1 cr) ∧ w'.cell? ⟨M, 0, none⟩ = some (.int .i64 10) ∧ w'.cell? ⟨M, 1, none⟩ = some (.int .i64 10)) w') := fun w' hh => ⟨(hh.cell (block_lt x2)).trans x2, (hh.cell (block_lt y0)).trans y0, (hh.cell (block_lt y1)).trans y1⟩
      clear hne hse hbf hcell hrd hvr x2 blf y0 y1 HRD
      go_upto_region 11 with fail
      --CUT7
      refine wp_region_X (fun w' => w'.cell? ⟨be, offe + 2 * 4 + 2, none⟩ = some (.slice ar 1 cr) ∧ w'.cell? ⟨M, 0, none⟩ = some (.int .i64 10) ∧ w'.cell? ⟨M, 1, none⟩ = some (.int .i64 10)) 99 (by kernel_rfl) (HSF.out _ (Below.refl _ _).drew) (fun hHeld => ?_)
      refine wpXt (v := ?_) 0 rfl (by kernel_rfl) (fun _ _ _ h => h) (by rfl) ?_ hHeld ?_
      rotate_left
      · intro w' hSw
        go_simp <;> with_reducible rfl
      try simp only [Act.put, List.setIfInBounds_toArray, List.set_cons_zero, List.set_cons_succ]
      refine wpXt (v := ?_) 1 rfl (by kernel_rfl) (fun _ _ _ h => h) (by rfl) ?_ hHeld ?_
      rotate_left
      · intro w' hSw
        go_simp <;> with_reducible rfl
      try simp only [Act.put, List.setIfInBounds_toArray, List.set_cons_zero, List.set_cons_succ]
      refine wpXt (v := ?_) 2 rfl (by kernel_rfl) (fun _ _ _ h => h) (by rfl) ?_ hHeld ?_
      rotate_left
      · intro w' hSw
        go_simp <;> with_reducible rfl
      try simp only [Act.put, List.setIfInBounds_toArray, List.set_cons_zero, List.set_cons_succ]
      refine wpXt (v := ?_) 3 rfl (by kernel_rfl) (fun _ _ _ h => h) (by rfl) ?_ hHeld ?_
      rotate_left
      · intro w' hSw
        go_simp <;> with_reducible rfl
      try simp only [Act.put, List.setIfInBounds_toArray, List.set_cons_zero, List.set_cons_succ]
      refine wpXt (v := ?_) 4 rfl (by kernel_rfl) (fun _ _ _ h => h) (by rfl) ?_ hHeld ?_
      rotate_left
      · intro w' hSw
        go_simp <;> with_reducible rfl
      try simp only [Act.put, List.setIfInBounds_toArray, List.set_cons_zero, List.set_cons_succ]
      refine wpXt (v := ?_) 5 rfl (by kernel_rfl) (fun _ _ _ h => h) (by rfl) ?_ hHeld ?_
      rotate_left
      · intro w' hSw
        go_simp <;> with_reducible rfl
      try simp only [Act.put, List.setIfInBounds_toArray, List.set_cons_zero, List.set_cons_succ]
      refine wpXt (v := ?_) 6 rfl (by kernel_rfl) (fun _ _ _ h => h) (by rfl) ?_ hHeld ?_
      rotate_left
      · intro w' hSw
        go_simp <;> with_reducible rfl
      try simp only [Act.put, List.setIfInBounds_toArray, List.set_cons_zero, List.set_cons_succ]
      refine wpXt (v := ?_) 7 rfl (by kernel_rfl) (fun _ _ _ h => h) (by rfl) ?_ hHeld ?_
      rotate_left
      · intro w' hSw
        go_simp <;> with_reducible rfl
      try simp only [Act.put, List.setIfInBounds_toArray, List.set_cons_zero, List.set_cons_succ]
      refine wpXt (v := ?_) 8 rfl (by kernel_rfl) (fun _ _ _ h => h) (by rfl) ?_ hHeld ?_
      rotate_left
      · intro w' hSw
        go_simp <;> with_reducible rfl
      try simp only [Act.put, List.setIfInBounds_toArray, List.set_cons_zero, List.set_cons_succ]
      refine wpXt (v := ?_) 9 rfl (by kernel_rfl) (fun _ _ _ h => h) (by rfl) ?_ hHeld ?_
      rotate_left
      · intro w' hSw
        go_simp <;> with_reducible rfl
      try simp only [Act.put, List.setIfInBounds_toArray, List.set_cons_zero, List.set_cons_succ]
      refine wpXt (v := ?_) 10 rfl (by kernel_rfl) (fun _ _ _ h => h) (by rfl) ?_ hHeld ?_
      rotate_left
      · intro w' hSw
        go_simp <;> with_reducible rfl
      try simp only [Act.put, List.setIfInBounds_toArray, List.set_cons_zero, List.set_cons_succ]
      refine wpXt (v := ?_) 11 rfl (by kernel_rfl) (fun _ _ _ h => h) (by rfl) ?_ hHeld ?_
      rotate_left
      · intro w' hSw
        go_simp <;> with_reducible rfl
      try simp only [Act.put, List.setIfInBounds_toArray, List.set_cons_zero, List.set_cons_succ]
      refine wpXt (v := ?_) 12 rfl (by kernel_rfl) (fun _ _ _ h => h) (by rfl) ?_ hHeld ?_
      rotate_left
      · intro w' hSw
        go_simp <;> with_reducible rfl
      try simp only [Act.put, List.setIfInBounds_toArray, List.set_cons_zero, List.set_cons_succ]
      refine wpXt (v := ?_) 13 rfl (by kernel_rfl) (fun _ _ _ h => h) (by rfl) ?_ hHeld ?_
      rotate_left
      · intro w' hSw
        go_simp <;> with_reducible rfl
      try simp only [Act.put, List.setIfInBounds_toArray, List.set_cons_zero, List.set_cons_succ]
      refine wpXt (v := ?_) 14 rfl (by kernel_rfl) (fun _ _ _ h => h) (by rfl) ?_ hHeld ?_
      rotate_left
      · intro w' hSw
        go_simp <;> with_reducible rfl
      try simp only [Act.put, List.setIfInBounds_toArray, List.set_cons_zero, List.set_cons_succ]
      refine wpXt (v := ?_) 15 rfl (by kernel_rfl) (fun _ _ _ h => h) (by rfl) ?_ hHeld ?_
      rotate_left
      · intro w' hSw
        go_simp <;> with_reducible rfl
      try simp only [Act.put, List.setIfInBounds_toArray, List.set_cons_zero, List.set_cons_succ]
      refine wpXt (v := ?_) 16 rfl (by kernel_rfl) (fun _ _ _ h => h) (by rfl) ?_ hHeld ?_
      rotate_left
      · intro w' hSw
        go_simp <;> with_reducible rfl
      try simp only [Act.put, List.setIfInBounds_toArray, List.set_cons_zero, List.set_cons_succ]
      refine wpXt (v := ?_) 17 rfl (by kernel_rfl) (fun _ _ _ h => h) (by rfl) ?_ hHeld ?_
      rotate_left
      · intro w' hSw
        go_simp <;> with_reducible rfl
      try simp only [Act.put, List.setIfInBounds_toArray, List.set_cons_zero, List.set_cons_succ]
      refine wpXt (v := ?_) 18 rfl (by kernel_rfl) (fun _ _ _ h => h) (by rfl) ?_ hHeld ?_
      rotate_left
      · intro w' hSw
        go_simp <;> with_reducible rfl
      try simp only [Act.put, List.setIfInBounds_toArray, List.set_cons_zero, List.set_cons_succ]
      refine wpXt (v := ?_) 19 rfl (by kernel_rfl) (fun _ _ _ h => h) (by rfl) ?_ hHeld ?_
      rotate_left
      · intro w' hSw
        go_simp <;> with_reducible rfl
      try simp only [Act.put, List.setIfInBounds_toArray, List.set_cons_zero, List.set_cons_succ]
      refine wpXt (v := ?_) 20 rfl (by kernel_rfl) (fun _ _ _ h => h) (by rfl) ?_ hHeld ?_
      rotate_left
      · intro w' hSw
        go_simp <;> with_reducible rfl
      try simp only [Act.put, List.setIfInBounds_toArray, List.set_cons_zero, List.set_cons_succ]
      --CUT8
      refine wpXs 21 rfl (by kernel_rfl) (fun K hK => ?_)
      go_simp
      rw [show IntKind.i64.wrap (IntKind.i64.wrap (IntKind.i64.wrap 1010 + 10) + 2) = (1022 : Int) from by kernel_rfl]
      obtain ⟨W9, hW9⟩ : ∃ W9, W9 = (wf.alloc (.cells #[.int .i64 1022] 3)).drew := ⟨_, rfl⟩
      obtain ⟨Y, hY⟩ : ∃ Y, wf.heap.size = Y := ⟨_, rfl⟩
      have b9 : Below wf.heap.size wf W9 := by rw [hW9]; exact ((Below.refl _ _).alloc (Nat.le_refl _) _).drew
      have s9 : SlOf W9 1 RInt (.slice (some ⟨Y, 0, none⟩) 1 1) [1022] := by
        have h : SlOf (wf.alloc (.cells #[.int .i64 1022] 3)) 1 RInt (.slice (some ⟨Y, 0, none⟩) 1 1) [1022] := by
          rw [← hY]
          exact sl_newL [[.int .i64 1022]] [1022] rfl (by simp) rfl (by simp) (fun i h h' => by
            match i, h with
            | 0, _ => rfl) (by decide)
        rw [hW9]
        exact h.below (Below.refl _ _).drew fun _ _ h => h
      have HC := sameInts_true [1022] ar (some ⟨Y, 0, none⟩) 1 cr 1 W9 rfl (HVR.out.below b9 fun _ _ h => h) s9
      have HB9 : Hid (Below wf.heap.size wf W9) := b9
      rw [← hW9, hY]
      clear hW9 hY b9 s9
      refine hK.out _ _ (HSF.out _ HB9.out) (fun hHeld => ?_)
      clear hK K
      try simp only [Act.put, List.setIfInBounds_toArray, List.set_cons_zero, List.set_cons_succ]
      refine wpXs 22 rfl (by kernel_rfl) (fun K hK => ?_)
      go_simp
      refine HC.mono ?_
      clear HC
      rintro e w10 ⟨rfl, b10⟩
      have HB10 : Hid (Below wf.heap.size wf w10) := HB9.out.trans (b10.mono HB9.out.size)
      clear b10
      refine hK.out _ _ (HSF.out _ HB10.out) (fun hHeld => ?_)
      clear hK K
      try simp only [Act.put, List.setIfInBounds_toArray, List.set_cons_zero, List.set_cons_succ]
      refine wpXs 23 rfl (by kernel_rfl) (fun K hK => ?_)
      go_simp
      refine hK.out _ _ (HSF.out _ HB10.out) (fun hHeld => ?_)
      clear hK K
      try simp only [Act.put, List.setIfInBounds_toArray, List.set_cons_zero, List.set_cons_succ]
      refine wpXs 24 rfl (by kernel_rfl) (fun K hK => ?_)
      go_simp
      refine hK.out _ _ (HSF.out _ HB10.out) (fun hHeld => ?_)
      clear hK K
      try simp only [Act.put, List.setIfInBounds_toArray, List.set_cons_zero, List.set_cons_succ]
      refine wpAnyX_done (by kernel_rfl) ?_ _

      have HE : Hid (Below w.heap.size w w10) := HBF.out.trans (HB10.out.mono HBF.out.size)
      clear hHeld

      go_wp2
      go_ret
      exact ⟨rfl, HE.out⟩
end Go.Proofs.Ytjbjnndmpheedaa
