/-
  The contract of 'movesByPlace': for each spot its moves.
-/
import Derived.Test.YtjbjnndmpheedaaQ7
import Derived.Laws.MakeOwn
import Derived.Deep.OwnRows
namespace Go.Proofs.Ytjbjnndmpheedaa
open Go.RowKit
set_option linter.unusedVariables false

theorem blk_atM {w : World} {ab : Option Addr} {nb cb : Nat} {bs : List Blk} (h : SlOf w 3 (RBlk w) (.slice ab nb cb) bs) (t : Nat) (ht : t < bs.length) : ∃ b off ap cp ai ci ae ce, ab = some ⟨b, off, none⟩ ∧ b < w.heap.size ∧ w.cell? ⟨b, off + t * 3, none⟩ = some (.slice ap bs[t].params.length cp) ∧ w.cell? ⟨b, off + t * 3 + 1, none⟩ = some (.slice ai bs[t].instrs.length ci) ∧ w.cell? ⟨b, off + t * 3 + 1 + 1, none⟩ = some (.slice ae bs[t].edges.length ce) := by
  obtain ⟨b, off, cs, h1, h2, ⟨vp, vi, ve, rfl, hp, hi, he⟩, h4⟩ := h.at t ht
  obtain ⟨ap, cp, rfl, _⟩ := hp.out
  obtain ⟨ai, ci, rfl, _⟩ := hi.out
  obtain ⟨ae, ce, rfl, _⟩ := he.out
  have c0 := h4 0 (by simp)
  have c1 := h4 1 (by simp)
  have c2 := h4 2 (by simp)
  exact ⟨b, off, ap, cp, ai, ci, ae, ce, h1, block_lt c0, c0, c1, c2⟩
def lnB (bs : List Blk) (b : Nat) : Nat := (bs.getD b emptyBm).instrs.length + 1
/-- The table while its rows are made: k of them. -/
structure MvS (w0 : World) (N n k : Nat) (ln : Nat → Nat) (vv vb : Value) (w : World) : Prop where
  bx : w.rowIs N 25 2 (fun q => if q = 0 then vv else vb)
  row : w.rowIs (N + 1) 108 n (fun b => if b < k then .slice (some ⟨N + 3 + 2 * b, 0, none⟩) (ln b) (ln b) else .slice none 0 0)
  rows : ∀ b, b < k → w.rowIs (N + 3 + 2 * b) 49 (ln b) (fun _ => .slice none 0 0)
  size : w.heap.size = N + 2 + 2 * k
  low : Below N w0 w
theorem MvS.next {w0 : World} {N n k : Nat} {ln : Nat → Nat} {vv vb : Value} {w W5 : World} {o : Obj} (h : MvS w0 N n k ln vv vb w) (hk : k < n) (hW5 : W5 = w.alloc o) : MvS w0 N n (k + 1) ln vv vb ((W5.setCell ⟨N + 1, k, none⟩ (.slice (some ⟨W5.heap.size, 0, none⟩) (ln k) (ln k))).alloc (.cells (madeCells #[.slice none 0 0] (ln k)) 49)) := by
  have hs := h.size
  have hs5 : W5.heap.size = N + 3 + 2 * k := by rw [hW5]; simp [hs]; omega
  rw [hs5]
  have hsc : (W5.setCell ⟨N + 1, k, none⟩ (.slice (some ⟨N + 3 + 2 * k, 0, none⟩) (ln k) (ln k))).heap.size = N + 3 + 2 * k := by rw [← hs5]; simp [World.setCell]
  have hm := World.rowIs_made (W5.setCell ⟨N + 1, k, none⟩ (.slice (some ⟨N + 3 + 2 * k, 0, none⟩) (ln k) (ln k))) (.slice none 0 0) (ln k) 49
  rw [hsc] at hm
  have hb : w.rowIs N 25 2 _ := h.bx
  refine ⟨?_, ?_, fun b hb => ?_, by first | (simp [hsc]; omega) | (simp [hs5]; omega) | (simp [World.setCell, hs5]; omega), ?_⟩
  · rw [hW5]
    exact ((h.bx.alloc _).setOther (by simp) _).alloc _
  · rw [hW5]
    refine (((h.row.alloc _).set k _).alloc _).congr fun b hb => ?_
    by_cases e : b = k
    · subst e
      rw [if_pos rfl, if_pos (by omega)]
    · rw [if_neg e]
      by_cases e2 : b < k
      · rw [if_pos e2, if_pos (by omega)]
      · rw [if_neg e2, if_neg (by omega)]
  · by_cases e : b = k
    · subst e
      exact hm
    · rw [hW5]
      exact (((h.rows b (by omega)).alloc _).setOther (by simp; omega) _).alloc _
  · have h1 : Below N w0 W5 := by rw [hW5]; exact h.low.alloc (by omega) _
    exact (h1.setCell (by simp) _).alloc (by rw [hsc]; omega) _
/-- The table: of each spot a list that lies where it lay ahead of the call. -/
structure MvT (wq w0 : World) (N n : Nat) (ln : Nat → Nat) (v : Nat → Nat → Value) (g : Nat → Nat → List Mv) (w : World) : Prop where
  row : w.rowIs (N + 1) 108 n (fun b => .slice (some ⟨N + 3 + 2 * b, 0, none⟩) (ln b) (ln b))
  rows : ∀ b, b < n → w.rowIs (N + 3 + 2 * b) 49 (ln b) (fun q => v b q)
  low : Below N w0 w
  ok : ∀ b q, b < n → q < ln b → SlOf wq 6 RMv (v b q) (g b q)
  sz : N + 2 ≤ w.heap.size
theorem MvT.below {wq w0 : World} {N n : Nat} {ln : Nat → Nat} {v : Nat → Nat → Value} {g : Nat → Nat → List Mv} {w w' : World} (h : MvT wq w0 N n ln v g w) (hb : Below w.heap.size w w') : MvT wq w0 N n ln v g w' :=
  ⟨h.row.of_block (hb.block _ h.row.lt), fun b hbn => (h.rows b hbn).of_block (hb.block _ (h.rows b hbn).lt), h.low.trans (hb.mono (by have := h.sz; omega)), h.ok, Nat.le_trans h.sz hb.size⟩
theorem MvT.put {wq w0 : World} {N n : Nat} {ln : Nat → Nat} {v : Nat → Nat → Value} {g : Nat → Nat → List Mv} {w : World} (h : MvT wq w0 N n ln v g w) (bi qi : Nat) (vm : Value) (l : List Mv) (hs : SlOf wq 6 RMv vm l) : MvT wq w0 N n ln (fun b q => if b = bi ∧ q = qi then vm else v b q) (fun b q => if b = bi ∧ q = qi then l else g b q) (w.setCell ⟨N + 3 + 2 * bi, qi, none⟩ vm) := by
  refine ⟨h.row.setOther (by simp; omega) _, fun b hb => ?_, h.low.setCell (by simp; omega) _, fun b q hb hq => ?_, by simp [World.setCell]; exact h.sz⟩
  · by_cases e : b = bi
    · subst e
      refine ((h.rows b hb).set qi _).congr fun q hq => ?_
      by_cases e2 : q = qi
      · rw [if_pos e2, if_pos ⟨rfl, e2⟩]
      · rw [if_neg e2, if_neg (fun hc => e2 hc.2)]
    · refine ((h.rows b hb).setOther (by simp; omega) _).congr fun q hq => ?_
      rw [if_neg (fun hc => e hc.1)]
  · by_cases e : b = bi ∧ q = qi
    · simp only [if_pos e]
      exact hs
    · simp only [if_neg e]
      exact h.ok b q hb hq
theorem MvT.turn {wq w0 : World} {N n : Nat} {ln : Nat → Nat} {v : Nat → Nat → Value} {g g' : Nat → Nat → List Mv} {w : World} (h : MvT wq w0 N n ln v g w) (hg : ∀ b q, g b q = g' b q) : MvT wq w0 N n ln v g' w :=
  ⟨h.row, h.rows, h.low, fun b q hb hq => by rw [← hg]; exact h.ok b q hb hq, h.sz⟩
theorem mvAt_take (eds : List Ed) (i : Nat) (hi : i < eds.length) (b q : Nat) : mvAt (eds.take (i + 1)) b q = if eds[i].block = (b : Int) ∧ eds[i].pos = (q : Int) then eds[i].moves else mvAt (eds.take i) b q := by
  unfold mvAt
  rw [List.take_succ_eq_append_getElem hi, List.foldl_append]
  rfl
theorem mk_mvs (n : Nat) (hn : n ≤ 1000) (w : World) : (Instr.makeSlice 108 (.int .i64 ((n : Int) + 1)) (.int .i64 ((n : Int) + 1))).run Try.prog w = .ok (.slice (some ⟨w.heap.size, 0, none⟩) (n + 1) (n + 1)) (w.alloc (.cells (madeCells #[.slice none 0 0] (n + 1)) 49)) :=
  run_make_row' (P := Try.prog) 108 49 (.slice none 0 0) 24 Try.underlying108 (by kernel_rfl) rfl .i64 .i64 (n + 1) (by omega) (by omega) w

set_option maxRecDepth 4000 in
set_option maxHeartbeats 8000000 in
theorem mbp_any (wb : World) (n nv ne N : Nat) (av ab ae : Option Addr) (cv cb ce : Nat) (bs : List Blk) (eds : List Ed) (w : World) (hwb : Below wb.heap.size wb w) (hN : w.heap.size = N) (hn : n ≤ 1000) (hbs : SlOf w 3 (RBlk w) (.slice ab n cb) bs) (hnb : bs.length = n) (hni : ∀ blk ∈ bs, blk.instrs.length ≤ 1000) (hed : SlOf wb 3 (REd wb) (.slice ae ne ce) eds) (hne : eds.length = ne) (hok : ∀ e ∈ eds, isSpotB bs e = true) :
    Calls Try.prog 26 #[.agg #[.slice av nv cv, .slice ab n cb], .slice ae ne ce] w fun e w' => e = .returned (.slice (some ⟨N + 1, 0, none⟩) n n) ∧ ∃ v, MvT wb w N n (lnB bs) v (mvAt eds) w' := by
  have hmk := run_make_row' (P := Try.prog) 80 108 (.slice none 0 0) 24 Try.underlying80 (by kernel_rfl) rfl .i64 .i64 n (by omega) (by omega)
  obtain ⟨W, hW⟩ : ∃ W, W = (w.alloc (.cells #[.slice av nv cv, .slice ab n cb] 25)).alloc (.cells (madeCells #[.slice none 0 0] n) 108) := ⟨_, rfl⟩
  have hst : MvS w N n 0 (lnB bs) (.slice av nv cv) (.slice ab n cb) W := by
    rw [hW]
    have r0 : (w.alloc (.cells #[.slice av nv cv, .slice ab n cb] 25)).rowIs w.heap.size 25 2 (fun q => if q = 0 then .slice av nv cv else .slice ab n cb) :=
      World.rowIs_alloc _ _ _ _ fun i hi => by
        simp at hi
        match i, hi with | 0, _ => rfl | 1, _ => rfl
    have r1 := World.rowIs_made (w.alloc (.cells #[.slice av nv cv, .slice ab n cb] 25)) (.slice none 0 0) n 108
    have e : (w.alloc (.cells #[.slice av nv cv, .slice ab n cb] 25)).heap.size = N + 1 := by simp [hN]
    rw [e] at r1
    rw [hN] at r0
    exact ⟨r0.alloc _, r1.congr fun b hb => by simp, fun b hb => by omega, by simp [hN], ((Below.refl _ _).alloc (by omega) _).alloc (by rw [e]; omega) _⟩
  have HW : Hid (W = (w.alloc (.cells #[.slice av nv cv, .slice ab n cb] 25)).alloc (.cells (madeCells #[.slice none 0 0] n) 108)) := hW
  have HS0 : Hid (MvS w N n 0 (lnB bs) (.slice av nv cv) (.slice ab n cb) W) := hst
  have HN : Hid (w.heap.size = N) := hN
  have HBS : Hid (SlOf w 3 (RBlk w) (.slice ab n cb) bs ∧ bs.length = n ∧ ∀ blk ∈ bs, blk.instrs.length ≤ 1000) := ⟨hbs, hnb, hni⟩
  have HWB : Hid (Below wb.heap.size wb w) := hwb
  have HED : Hid (SlOf wb 3 (REd wb) (.slice ae ne ce) eds ∧ eds.length = ne ∧ ∀ e ∈ eds, isSpotB bs e = true) := ⟨hed, hne, hok⟩
  have lne : ne ≤ 140737488355328 := by obtain ⟨_, _, _, hh⟩ := hed.out; rw [hne] at hh; exact hh
  have k0 : W.cell? ⟨N, 1, none⟩ = some (.slice ab n cb) := hst.bx.cell (i := 1) (by omega)
  clear hW hst hN hbs hnb hni hed hne hok hwb
  go_enter Try.func26, Try.ntmps26
  go_upto_region 2 with fail
  rw [← HW.out, HN.out]
  --CUT1
  go_wp2_with fail
  clear hmk HW k0
  go_loopw [17] (fun i wr => ∃ k : Nat, k ≤ n ∧ i = .int .i64 k ∧ Hid (MvS w N n k (lnB bs) (.slice av nv cv) (.slice ab n cb) wr)) (fun i _ => n - (intOf i).toNat)
  case atStart => exact ⟨0, Nat.zero_le _, rfl, HS0⟩
  case round =>
    clear HS0
    obtain ⟨k, hk, rfl, HI⟩ := hrel
    by_cases hlt : k < n
    · have hkb : k < bs.length := by rw [HBS.out.2.1]; exact hlt
      have hlow : Below w.heap.size w wr := by rw [HN.out]; exact HI.out.low
      obtain ⟨b5, off5, ap, cp, ai, ci, aq, cq, rfl, hb5, o0, o1, o2⟩ := blk_atM (HBS.out.1.below hlow (RBlk.below hlow)) k hkb
      have hni := HBS.out.2.2 _ (List.getElem_mem hkb)
      have HLN : Hid (lnB bs k = bs[k].instrs.length + 1) := by show _ = _; unfold lnB; rw [List.getD_eq_getElem?_getD, List.getElem?_eq_getElem hkb]; rfl
      generalize bs[k].params.length = np at *
      generalize bs[k].instrs.length = ni at *
      generalize bs[k].edges.length = nq at *
      have hmk2 := mk_mvs ni hni
      obtain ⟨W5, hW5⟩ : ∃ W5, W5 = wr.alloc (.cells #[.slice ap np cp, .slice ai ni ci, .slice aq nq cq] 75) := ⟨_, rfl⟩
      obtain ⟨M, hM⟩ : ∃ M, wr.heap.size = M := ⟨_, rfl⟩
      have m1 : W5.cell? ⟨M, 1, none⟩ = some (.slice ai ni ci) := by rw [hW5, ← hM]; simp
      have s1 := (HI.out.row.alloc (.cells #[.slice ap np cp, .slice ai ni ci, .slice aq nq cq] 75)).cell hlt
      have s2 := (HI.out.row.alloc (.cells #[.slice ap np cp, .slice ai ni ci, .slice aq nq cq] 75)).frozen k
      have s3 := (HI.out.row.alloc (.cells #[.slice ap np cp, .slice ai ni ci, .slice aq nq cq] 75)).lt
      simp only [Nat.lt_irrefl, if_false] at s1
      rw [← hW5] at s1 s2 s3
      have HE := HI.out.next hlt hW5
      rw [HLN.out] at HE
      have HE2 : Hid (MvS w N n (k + 1) (lnB bs) (.slice av nv cv) (.slice (some ⟨b5, off5, none⟩) n cb) ((W5.setCell ⟨N + 1, k, none⟩ (.slice (some ⟨W5.heap.size, 0, none⟩) (ni + 1) (ni + 1))).alloc (.cells (madeCells #[.slice none 0 0] (ni + 1)) 49))) := HE
      have HW5 : Hid (W5 = wr.alloc (.cells #[.slice ap np cp, .slice ai ni ci, .slice aq nq cq] 75)) := hW5
      have HMM : Hid (wr.heap.size = M) := hM
      have hki : (k : Int) < (n : Int) := by omega
      clear hW5 hM HE HI hlow HLN
      go_upto_region 5 with fail
      rw [← HW5.out, HMM.out]
      clear HW5 HMM o0 o1 o2 hb5
      --CUT2
      go_wp2
      go_roundw
      case rel => exact ⟨k + 1, by omega, by go_num, HE2⟩
      case measure => simp [intOf]; omega
    · have HT0 : Hid (MvT wb w N n (lnB bs) (fun _ _ => .slice none 0 0) (mvAt (eds.take 0)) wr) := by
        have h := HI.out
        have e : k = n := by omega
        rw [e] at h
        exact ⟨h.row.congr fun b hb => by rw [if_pos hb], h.rows, h.low, fun b q _ _ => ⟨none, 0, rfl, by simp [mvAt], Or.inl rfl⟩, by rw [h.size]; omega⟩
      clear HI
      --CUT3
      go_wp2_with fail
      go_loopw [33] (fun i wr => ∃ (j : Nat) (v : Nat → Nat → Value), j ≤ ne ∧ i = .int .i64 j ∧ Hid (MvT wb w N n (lnB bs) v (mvAt (eds.take j)) wr)) (fun i _ => ne - (intOf i).toNat)
      case atStart => exact ⟨0, _, Nat.zero_le _, rfl, HT0⟩
      case round =>
        clear HT0
        obtain ⟨j, v, hj, rfl, HI⟩ := hrel
        by_cases hlt : j < ne
        · have hje : j < eds.length := by rw [HED.out.2.1]; exact hlt
          have hji : (j : Int) < (ne : Int) := by omega
          have hlow : Below w.heap.size w wr := by rw [HN.out]; exact HI.out.low
          have hloq : Below wb.heap.size wb wr := HWB.out.trans (hlow.mono HWB.out.size)
          obtain ⟨be, offe, am, cm, rfl, hbe, o0, o1, o2, hlm, hmv⟩ := ed_cell HED.out.1 j hje
          have o0 := (hloq.cell (p := ⟨be, _, none⟩) hbe).trans o0
          have o1 := (hloq.cell (p := ⟨be, _, none⟩) hbe).trans o1
          have o2 := (hloq.cell (p := ⟨be, _, none⟩) hbe).trans o2
          have hsp := HED.out.2.2 _ (List.getElem_mem hje)
          have HT : Hid (∀ b q, (if b = eds[j].block.toNat ∧ q = eds[j].pos.toNat then eds[j].moves else mvAt (eds.take j) b q) = mvAt (eds.take (j + 1)) b q) := fun b q => by
            rw [mvAt_take eds j hje]
            have h1 := hsp
            unfold isSpotB at h1
            simp only [Bool.and_eq_true, decide_eq_true_eq] at h1
            by_cases e : b = eds[j].block.toNat ∧ q = eds[j].pos.toNat
            · rw [if_pos e, if_pos (by omega)]
            · rw [if_neg e, if_neg (by omega)]
          unfold isSpotB at hsp
          simp only [Bool.and_eq_true, decide_eq_true_eq] at hsp
          generalize eds[j] = ed at *
          obtain ⟨eb, ep, em⟩ := ed
          simp only at o0 o1 o2 hlm hmv hsp HT
          obtain ⟨bi, rfl⟩ : ∃ bi : Nat, eb = (bi : Int) := ⟨eb.toNat, by omega⟩
          obtain ⟨qi, rfl⟩ : ∃ qi : Nat, ep = (qi : Int) := ⟨ep.toNat, by omega⟩
          rw [Int.toNat_natCast] at hsp HT
          rw [Int.toNat_natCast] at HT
          have hbn : bi < n := by have := HBS.out.2.1; omega
          have hbi : (bi : Int) < (n : Int) := by omega
          have hqn : qi < lnB bs bi := by unfold lnB emptyBm; omega
          obtain ⟨lb, hlb⟩ : ∃ lb, lnB bs bi = lb := ⟨_, rfl⟩
          rw [hlb] at hqn
          have hqi : (qi : Int) < (lb : Int) := by omega
          generalize hnm : em.length = nm at *
          obtain ⟨W5, hW5⟩ : ∃ W5, W5 = wr.alloc (.cells #[.int .i64 (bi : Int), .int .i64 (qi : Int), .slice am nm cm] 51) := ⟨_, rfl⟩
          obtain ⟨M, hM⟩ : ∃ M, wr.heap.size = M := ⟨_, rfl⟩
          have b5 : Below wr.heap.size wr W5 := by rw [hW5]; exact (Below.refl _ _).alloc (Nat.le_refl _) _
          have m0 : W5.cell? ⟨M, 0, none⟩ = some (.int .i64 (bi : Int)) := by rw [hW5, ← hM]; simp
          have m1 : W5.cell? ⟨M, 1, none⟩ = some (.int .i64 (qi : Int)) := by rw [hW5, ← hM]; simp
          have m2 : W5.cell? ⟨M, 2, none⟩ = some (.slice am nm cm) := by rw [hW5, ← hM]; simp
          have HT5 : Hid (MvT wb w N n (lnB bs) v (mvAt (eds.take j)) W5) := HI.out.below b5
          have r1 := HT5.out.row.cell hbn
          rw [hlb] at r1
          have r1 : W5.cell? ⟨N + 1, bi, none⟩ = some (.slice (some ⟨N + 3 + 2 * bi, 0, none⟩) lb lb) := r1
          have rr := HT5.out.rows bi hbn
          rw [hlb] at rr
          have HSF : Hid (∀ w', Below W5.heap.size W5 w' → (fun w' => w'.cell? ⟨M, 0, none⟩ = some (.int .i64 (bi : Int)) ∧ w'.cell? ⟨M, 1, none⟩ = some (.int .i64 (qi : Int)) ∧ w'.cell? ⟨M, 2, none⟩ = some (.slice am nm cm) ∧ w'.cell? ⟨N + 1, bi, none⟩ = some (.slice (some ⟨N + 3 + 2 * bi, 0, none⟩) lb lb)) w') := fun w' hh => ⟨(hh.cell (block_lt m0)).trans m0, (hh.cell (block_lt m1)).trans m1, (hh.cell (block_lt m2)).trans m2, (hh.cell (block_lt r1)).trans r1⟩
          have d5 : Below W5.heap.size W5 W5.drew := (Below.refl _ _).drew
          have rr5 := rr.of_block (d5.block _ rr.lt)
          have v1 := rr5.cell hqn
          have v2 := rr5.frozen qi
          have v3 := rr5.lt
          have HT6 : Hid (MvT wb w N n (lnB bs) (fun b q => if b = bi ∧ q = qi then .slice am nm cm else v b q) (mvAt (eds.take (j + 1))) (W5.drew.setCell ⟨N + 3 + 2 * bi, qi, none⟩ (.slice am nm cm))) := by
            have h1 := (HT5.out.below d5).put bi qi (.slice am nm cm) em hmv
            exact h1.turn HT.out
          have HW5 : Hid (W5 = wr.alloc (.cells #[.int .i64 (bi : Int), .int .i64 (qi : Int), .slice am nm cm] 51)) := hW5
          have HMM : Hid (wr.heap.size = M) := hM
          clear hW5 hM HI hlow hloq HT hmv hsp hlb hnm m0 m1 m2 r1 rr rr5 d5 b5 HT5
          go_upto_region 10 with fail
          rw [← HW5.out, HMM.out]
          clear HW5 HMM o0 o1 o2 hbe
          --CUT4
          refine wp_region_X (fun w' => w'.cell? ⟨M, 0, none⟩ = some (.int .i64 (bi : Int)) ∧ w'.cell? ⟨M, 1, none⟩ = some (.int .i64 (qi : Int)) ∧ w'.cell? ⟨M, 2, none⟩ = some (.slice am nm cm) ∧ w'.cell? ⟨N + 1, bi, none⟩ = some (.slice (some ⟨N + 3 + 2 * bi, 0, none⟩) lb lb)) 10 (by kernel_rfl) (HSF.out _ (Below.refl _ _).drew) (fun hHeld => ?_)
          refine wpXt (v := ?_) 0 rfl (by kernel_rfl) (fun _ _ _ h => h) (by rfl) ?_ hHeld ?_
          rotate_left
          · intro w' hSw
            go_simp <;> with_reducible rfl
          try simp only [Act.put, List.setIfInBounds_toArray, List.set_cons_zero, List.set_cons_succ]
          refine wpXt (v := ?_) 1 rfl (by kernel_rfl) (fun _ _ _ h => h) (by rfl) ?_ hHeld ?_
          rotate_left
          · intro w' hSw
            go_simp <;> with_reducible rfl
          try simp only [Act.put, List.setIfInBounds_toArray, List.set_cons_zero, List.set_cons_succ]
          refine wpXt (v := ?_) 2 rfl (by kernel_rfl) (fun _ _ _ h => h) (by rfl) ?_ hHeld ?_
          rotate_left
          · intro w' hSw
            go_simp <;> with_reducible rfl
          try simp only [Act.put, List.setIfInBounds_toArray, List.set_cons_zero, List.set_cons_succ]
          refine wpXt (v := ?_) 3 rfl (by kernel_rfl) (fun _ _ _ h => h) (by rfl) ?_ hHeld ?_
          rotate_left
          · intro w' hSw
            go_simp <;> with_reducible rfl
          try simp only [Act.put, List.setIfInBounds_toArray, List.set_cons_zero, List.set_cons_succ]
          refine wpXt (v := ?_) 4 rfl (by kernel_rfl) (fun _ _ _ h => h) (by rfl) ?_ hHeld ?_
          rotate_left
          · intro w' hSw
            go_simp <;> with_reducible rfl
          try simp only [Act.put, List.setIfInBounds_toArray, List.set_cons_zero, List.set_cons_succ]
          refine wpXt (v := ?_) 5 rfl (by kernel_rfl) (fun _ _ _ h => h) (by rfl) ?_ hHeld ?_
          rotate_left
          · intro w' hSw
            go_simp <;> with_reducible rfl
          try simp only [Act.put, List.setIfInBounds_toArray, List.set_cons_zero, List.set_cons_succ]
          refine wpXt (v := ?_) 6 rfl (by kernel_rfl) (fun _ _ _ h => h) (by rfl) ?_ hHeld ?_
          rotate_left
          · intro w' hSw
            go_simp <;> with_reducible rfl
          try simp only [Act.put, List.setIfInBounds_toArray, List.set_cons_zero, List.set_cons_succ]
          refine wpXt (v := ?_) 7 rfl (by kernel_rfl) (fun _ _ _ h => h) (by rfl) ?_ hHeld ?_
          rotate_left
          · intro w' hSw
            go_simp <;> with_reducible rfl
          try simp only [Act.put, List.setIfInBounds_toArray, List.set_cons_zero, List.set_cons_succ]
          refine wpXt (v := ?_) 8 rfl (by kernel_rfl) (fun _ _ _ h => h) (by rfl) ?_ hHeld ?_
          rotate_left
          · intro w' hSw
            go_simp <;> with_reducible rfl
          try simp only [Act.put, List.setIfInBounds_toArray, List.set_cons_zero, List.set_cons_succ]
          refine wpXt (v := ?_) 9 rfl (by kernel_rfl) (fun _ _ _ h => h) (by rfl) ?_ hHeld ?_
          rotate_left
          · intro w' hSw
            go_simp <;> with_reducible rfl
          try simp only [Act.put, List.setIfInBounds_toArray, List.set_cons_zero, List.set_cons_succ]
          refine wpXl 10 rfl (by kernel_rfl) rfl (by kernel_rfl) (fun K hK => ?_)
          go_simp
          refine hK.out _ _ ?_
          clear hK K

          clear v1 v2 v3 HSF
          go_wp2
          go_roundw
          case rel => exact ⟨j + 1, _, by omega, by go_num, HT6⟩
          case measure => simp [intOf]; omega
        · have HE : Hid (MvT wb w N n (lnB bs) v (mvAt eds) wr) := by
            have h := HI.out
            rw [List.take_of_length_le (by have := HED.out.2.1; omega)] at h
            exact h
          clear HI
          go_wp2
          go_ret
          exact ⟨rfl, _, HE.out⟩
end Go.Proofs.Ytjbjnndmpheedaa
