/-
  The contract of mach's 'through': one block, instruction by instruction.
-/
import Derived.Test.YtjbjnndmpheedaaQ10
namespace Go.Proofs.Ytjbjnndmpheedaa
open Go.RowKit
set_option linter.unusedVariables false


set_option maxRecDepth 4000 in
set_option maxHeartbeats 16000000 in
theorem mthrough_any (wb : World) (B X G fr N nb cb b steps t np cp nj cj : Nat) (h : Nat → Value) (v : Nat → Nat → Value) (ve0 : Value) (seed : Int) (s0 sA : Pm) (es0 : List (MEvt × Value)) (bs : List Blk) (pl : List (List (List Pl))) (eds : List Ed) (jl : List Int) (ab ap aj : Option Addr) (w : World)
    (hs : WkM wb B X G fr h N nb (lnB bs) v (mvAt eds) sA ((steps - t : Nat) : Int) ve0 es0 w) (hfr : fr ≤ 1000) (h1 : h 1 = .slice ab nb cb) (h2 : h 2 = .slice ap np cp) (h3 : h 3 = .slice (some ⟨N + 1, 0, none⟩) nb nb) (h4 : h 4 = .int .i64 seed) (hj : JkS wb h aj nj cj jl) (hnx : NxOk jl sA)
    (hbs : SlOf wb 3 (RBlk wb) (.slice ab nb cb) bs) (hnb : bs.length = nb) (hpl : SlOf wb 1 (RPss wb) (.slice ap np cp) pl) (hnp : pl.length = np) (hf : FitsM fr bs pl eds) (hb : b < nb) (ht : t ≤ steps) (hst : steps ≤ 5000) (hnb2 : nb ≤ 1000) (hes : es0.length ≤ t) (hrun : mrunM bs pl eds seed jl s0 t = ⟨.come b, sA, es0.map (·.1)⟩) :
    Calls Try.prog 28 #[.pointer (some ⟨X, 0, none⟩), .int .i64 (b : Int)] w fun e w' => ∃ r : Int, e = .returned (.int .i64 r) ∧ ThM wb B X G fr h N nb (lnB bs) v bs pl eds seed jl s0 steps t r w' := by
  obtain ⟨iE, hiE, hzE, hzE1, hzE2⟩ := ru_parts infoEvM
  have HC := mstep_any hs.mw (by omega) (by omega) (decide (1 ≤ ((steps - t : Nat) : Int))) rfl
  have hbl : b < bs.length := by omega
  have hbp : b < pl.length := by rw [hf.len]; exact hbl
  obtain ⟨blk, hblk⟩ : ∃ blk, bs[b]'hbl = blk := ⟨_, rfl⟩
  have hbm : blk ∈ bs := by rw [← hblk]; exact List.getElem_mem hbl
  have hbg : bs[b]? = some blk := by rw [List.getElem?_eq_getElem hbl, hblk]
  obtain ⟨b5, off5, apr, cpr, ai, ci, ae, ce, rfl, lb5, p0, p1, p2, hi, he⟩ := blk_atK hbs b hbl
  obtain ⟨bp, offp, aq, cq, rfl, lbp, q0, lq, hq⟩ := pss_cell hpl b hbp
  obtain ⟨rows, hrows⟩ : ∃ rows, pl[b]'hbp = rows := ⟨_, rfl⟩
  have hpg : pl[b]? = some rows := by rw [List.getElem?_eq_getElem hbp, hrows]
  rw [hblk] at p0 p1 p2 hi he
  rw [hrows] at q0 lq hq
  have fr1 := hf.row b blk rows hbg hpg
  have fi := hf.ins blk hbm
  have fe := hf.edg blk hbm
  obtain ⟨npr, hnpr⟩ : ∃ npr, blk.params.length = npr := ⟨_, rfl⟩
  obtain ⟨ni, hni⟩ : ∃ ni, blk.instrs.length = ni := ⟨_, rfl⟩
  obtain ⟨ne, hne⟩ : ∃ ne, blk.edges.length = ne := ⟨_, rfl⟩
  rw [hnpr] at p0
  rw [hni] at p1 hi fi fr1
  rw [fr1.1] at q0 hq
  rw [hne] at p2 he fe
  have HLB : Hid (lnB bs b = ni + 1) := by show _ = _; unfold lnB; rw [List.getD_eq_getElem?_getD, hbg, ← hni]; rfl
  have HBLK : Hid (bs[b]? = some blk ∧ blk.instrs.length = ni ∧ blk.edges.length = ne ∧ bs.length = nb) := ⟨hbg, hni, hne, hnb⟩
  have HSI : Hid (SlOf wb 3 (RIns wb) (.slice ai ni ci) blk.instrs) := hi
  have HSE : Hid (SlOf wb 2 (REdg wb) (.slice ae ne ce) blk.edges) := he
  have HSQ : Hid (SlOf wb 1 (RPs wb) (.slice aq ni cq) rows ∧ rows.length = ni ∧ pl[b]? = some rows) := ⟨hq, fr1.1, hpg⟩
  have HPQ : Hid (wb.cell? ⟨bp, offp + b, none⟩ = some (.slice aq ni cq)) := q0
  have HROW : Hid (∀ (k : Nat) (x : Ins) (l : List Pl), blk.instrs[k]? = some x → rows[k]? = some l → l.length = x.operands.length ∧ ∀ p ∈ l, PlOk fr p) := fr1.2
  have HF : Hid (FitsM fr bs pl eds) := hf
  have HFI : Hid (∀ x ∈ blk.instrs, x.operands.length ≤ 6 ∧ ∀ r ∈ x.spoils, (r.cls = 0 ∨ r.cls = 1) ∧ 0 ≤ r.n ∧ r.n < 11) := fi.2
  have HFE : Hid (∀ e ∈ blk.edges, 0 ≤ e.block ∧ e.block < (bs.length : Int)) := fe.2
  have hni2 := fi.1
  have hne2 := fe.1
  have HRUN : Hid (mrunM bs pl eds seed jl s0 t = ⟨.come b, sA, es0.map (·.1)⟩) := hrun
  have HJ : Hid (JkS wb h aj nj cj jl) := hj
  have HH : Hid (h 1 = .slice (some ⟨b5, off5, none⟩) nb cb ∧ h 2 = .slice (some ⟨bp, offp, none⟩) np cp ∧ h 3 = .slice (some ⟨N + 1, 0, none⟩) nb nb ∧ h 4 = .int .i64 seed) := ⟨h1, h2, h3, h4⟩
  have HNX : Hid (NxOk jl sA) := hnx
  have HNB : Hid (pl.length = np) := hnp
  have hbnp : b < np := by rw [← hnp]; exact hbp
  by_cases hl0 : steps = t
  · have q : decide (1 ≤ ((steps - t : Nat) : Int)) = false := by simp; omega
    rw [q] at HC
    have HS := hs.gone (((steps - t : Nat) : Int) - 1)
    obtain ⟨W, hW⟩ : ∃ W, W = w.setCell ⟨X, 5, none⟩ (.int .i64 (((steps - t : Nat) : Int) - 1)) := ⟨_, rfl⟩
    rw [← hW] at HS HC
    have HE : Hid (ThM wb B X G fr h N nb (lnB bs) v bs pl eds seed jl s0 steps t (-1) W) := ⟨_, _, _, _, HS, hnx, Or.inl ⟨rfl, by rw [hl0, hrun]⟩⟩
    clear hW
    clear hs hbs hnb hf hrun hbl hbm hbg p0 p1 p2 hi he fi fe HS q hblk hnpr hni hne hbp hpl hnp hpg q0 lq hq fr1 hrows hj hnx h1 h2 h3 h4 hbnp
    go_enter Try.func28, Try.ntmps28
    go_wp2_with fail
    refine HC.mono ?_
    clear HC
    rintro e w1 ⟨rfl, hw1⟩
    subst hw1
    go_wp2
    go_ret
    exact ⟨_, rfl, HE.out⟩
  · have q : decide (1 ≤ ((steps - t : Nat) : Int)) = true := by simp; omega
    rw [q] at HC
    have HS := hs.gone (((steps - t : Nat) : Int) - 1)
    have hlow : Below wb.heap.size wb (w.setCell ⟨X, 5, none⟩ (.int .i64 (((steps - t : Nat) : Int) - 1))) := HS.mw.low
    obtain ⟨W, hW⟩ : ∃ W, W = w.setCell ⟨X, 5, none⟩ (.int .i64 (((steps - t : Nat) : Int) - 1)) := ⟨_, rfl⟩
    rw [← hW] at HS hlow HC
    have e0 := (hlow.cell (p := ⟨b5, _, none⟩) lb5).trans p0
    have e1 := (hlow.cell (p := ⟨b5, _, none⟩) lb5).trans p1
    have e2 := (hlow.cell (p := ⟨b5, _, none⟩) lb5).trans p2
    have x1 : W.cell? ⟨X, 1, none⟩ = some (.slice (some ⟨b5, off5, none⟩) nb cb) := by rw [HS.mw.bx.cell (i := 1) (by omega), mwF_h (by omega), h1]
    obtain ⟨P, hP⟩ : ∃ P, W.heap.size = P := ⟨_, rfl⟩
    obtain ⟨W2, hW2⟩ : ∃ W2, W2 = W.alloc (.cells #[.slice apr npr cpr, .slice ai ni ci, .slice ae ne ce] 75) := ⟨_, rfl⟩
    have b2 : Below W.heap.size W W2 := by rw [hW2]; exact (Below.refl _ _).alloc (Nat.le_refl _) _
    have rP : W2.rowIs P 75 3 (fun q => if q = 0 then .slice apr npr cpr else if q = 1 then .slice ai ni ci else .slice ae ne ce) := by
      rw [hW2, ← hP]
      exact World.rowIs_alloc _ _ _ _ fun i hi => by
        simp at hi
        match i, hi with | 0, _ => rfl | 1, _ => rfl | 2, _ => rfl
    have hes1 : ((steps - t : Nat) : Int) - 1 = ((steps - (t + 1) : Nat) : Int) := by omega
    rw [hes1] at HS
    have HK0 : Hid (WkM wb B X G fr h N nb (lnB bs) v (mvAt eds) sA ((steps - (t + 1) : Nat) : Int) ve0 es0 W2) := HS.below b2
    have HP0 : Hid (W2.rowIs P 75 3 (fun q => if q = 0 then .slice apr npr cpr else if q = 1 then .slice ai ni ci else .slice ae ne ce) ∧ some P ≠ ve0.ownBlock) := ⟨rP, fun e => by have := own_base HS.own e.symm; omega⟩
    have HR0 : Hid (mrunM bs pl eds seed jl s0 (t + 1) = msettle bs eds b 0 0 sA (es0.map (·.1))) := by show mrStep bs pl eds seed jl (mrunM bs pl eds seed jl s0 t) = _; rw [hrun]; rfl
    have f1 : W2.cell? ⟨P, 1, none⟩ = some (.slice ai ni ci) := rP.cell (i := 1) (by omega)
    have HW2 : Hid (W2 = W.alloc (.cells #[.slice apr npr cpr, .slice ai ni ci, .slice ae ne ce] 75)) := hW2
    have HPP : Hid (W.heap.size = P) := hP
    have lPX : X < P := by rw [← hP]; have := HS.lX; have := HS.lB; omega
    have lPG : G < P := by rw [← hP]; have := HS.lG; have := HS.lB; omega
    have lPB : B ≤ P := by rw [← hP]; exact HS.lB
    have hbk : b < nb + 1 := by omega
    have wbk : IntKind.i64.wrap (b : Int) = (b : Int) := by rw [IntKind.wrap_i64]; omega
    clear hs hbs hnb hf hrun hbl hbm hbg p0 p1 p2 hi he fi fe HS q hblk hnpr hni hne hlow b2 rP hes1 hW2 hP hbp hpl hnp hpg q0 lq hq fr1 hrows hj hnx h1 h2 h3 h4
    go_enter Try.func28, Try.ntmps28
    go_wp2_with fail
    refine HC.mono ?_
    clear HC
    rintro e w1 ⟨rfl, hw1⟩
    subst hw1
    clear hW
    go_upto_region 4 with fail
    rw [← HW2.out, HPP.out]
    clear HW2 HPP e0 e1 e2 x1
    --CUT1
    go_wp2_with fail
    clear f1
    go_loopw [24, 6] (fun i s wr => ∃ (k t' : Nat) (tk : Int) (sP : Pm) (ve : Value) (es : List (MEvt × Value)), k ≤ ni ∧ i = .int .i64 k ∧ s = .int .i64 tk ∧ t < t' ∧ t' ≤ steps ∧ es.length < t' ∧ Hid (WkM wb B X G fr h N nb (lnB bs) v (mvAt eds) sP ((steps - t' : Nat) : Int) ve es wr) ∧ Hid (wr.rowIs P 75 3 (fun q => if q = 0 then .slice apr npr cpr else if q = 1 then .slice ai ni ci else .slice ae ne ce) ∧ some P ≠ ve.ownBlock) ∧ Hid (mrunM bs pl eds seed jl s0 t' = msettle bs eds b k tk sP (es.map (·.1))) ∧ Hid (k = ni → ne = 0 ∨ 0 ≤ tk ∧ tk < (ne : Int)) ∧ Hid (NxOk jl sP)) (fun i _ _ => ni - (intOf i).toNat)
    case atStart => exact ⟨0, t + 1, 0, sA, ve0, es0, Nat.zero_le _, rfl, rfl, by omega, by omega, by omega, HK0, HP0, HR0, (by show _ → _; intro _; omega), HNX⟩
    case round =>
      clear HK0 HP0 HR0 HNX
      obtain ⟨k, t', tk, sP, ve, es, hk, rfl, rfl, ht1, ht2, hest, HK, HP, HR, HT, HNX⟩ := hrel
      by_cases hlt : k < ni
      · have hkl : k < blk.instrs.length := by rw [HBLK.out.2.1]; exact hlt
        have hkr : k < rows.length := by rw [HSQ.out.2.1]; exact hlt
        obtain ⟨b7, off7, ao, co, asp, csp, rfl, lb7, i0, i1, i2, ho, hsp⟩ := ins_atK HSI.out k hkl
        obtain ⟨bq, offq, ar, cr, rfl, lbq, r0, lr, hr⟩ := ps_cell HSQ.out.1 k hkr
        obtain ⟨x, hx⟩ : ∃ x, blk.instrs[k]'hkl = x := ⟨_, rfl⟩
        obtain ⟨ps, hps⟩ : ∃ ps, rows[k]'hkr = ps := ⟨_, rfl⟩
        have hxm : x ∈ blk.instrs := by rw [← hx]; exact List.getElem_mem hkl
        have hxg : blk.instrs[k]? = some x := by rw [List.getElem?_eq_getElem hkl, hx]
        have hpsg : rows[k]? = some ps := by rw [List.getElem?_eq_getElem hkr, hps]
        rw [hx] at i0 i1 i2 ho hsp
        rw [hps] at r0 lr hr
        have fp := HROW.out k x ps hxg hpsg
        obtain ⟨fno, fd⟩ := HFI.out x hxm
        obtain ⟨op, os, sp⟩ := x
        simp only at i0 i1 i2 ho hsp fno fd fp
        obtain ⟨no, hno⟩ : ∃ no, os.length = no := ⟨_, rfl⟩
        rw [hno] at i1 ho fno fp
        rw [fp.1] at r0 hr
        obtain ⟨ns, hns⟩ : ∃ ns, sp.length = ns := ⟨_, rfl⟩
        rw [hns] at i2 hsp
        obtain ⟨m, hm⟩ : ∃ m, es.length = m := ⟨_, rfl⟩
        have hnt : m < t' := by rw [← hm]; exact hest
        obtain ⟨av, cv, rfl⟩ : ∃ av cv, ve = .slice av m cv := by
          rcases HK.out.own.2 with ⟨h1, h2⟩ | ⟨g, cap, cur, h1, _⟩
          · exact ⟨_, _, by rw [h1, ← hm, h2]⟩
          · exact ⟨_, _, by rw [h1, ← hm]⟩
        have hlow := HK.out.mw.low
        have e0 := (hlow.cell (p := ⟨b7, _, none⟩) lb7).trans i0
        have e1 := (hlow.cell (p := ⟨b7, _, none⟩) lb7).trans i1
        have e2 := (hlow.cell (p := ⟨b7, _, none⟩) lb7).trans i2
        obtain ⟨Q, hQ⟩ : ∃ Q, wr.heap.size = Q := ⟨_, rfl⟩
        obtain ⟨W3, hW3⟩ : ∃ W3, W3 = wr.alloc (.cells #[.int .i64 op, .slice ao no co, .slice asp ns csp] 45) := ⟨_, rfl⟩
        have b3 : Below wr.heap.size wr W3 := by rw [hW3]; exact (Below.refl _ _).alloc (Nat.le_refl _) _
        have k3 := HK.out.below b3
        have rQ3 : W3.rowIs Q 45 3 (fun q => if q = 0 then .int .i64 op else if q = 1 then .slice ao no co else .slice asp ns csp) := by
          rw [hW3, ← hQ]
          exact World.rowIs_alloc _ _ _ _ fun i hi => by
            simp at hi
            match i, hi with | 0, _ => rfl | 1, _ => rfl | 2, _ => rfl
        have rP3 : W3.rowIs P 75 3 (fun q => if q = 0 then .slice apr npr cpr else if q = 1 then .slice (some ⟨b7, off7, none⟩) ni ci else .slice ae ne ce) := HP.out.1.of_block (b3.block _ HP.out.1.lt)
        have HC := mstep_any k3.mw (by omega) (by omega) (decide (1 ≤ ((steps - t' : Nat) : Int))) rfl
        have hQX : X < Q := by have h1 := k3.lX; have h2 := HK.out.lB; omega
        have hQG : G < Q := by have h1 := k3.lG; have h2 := HK.out.lB; omega
        have hQv : some Q ≠ (Value.slice av m cv).ownBlock := fun e => by have := own_base HK.out.own e.symm; omega
        have hPv := HP.out.2
        have hPQ : P < Q := by rw [← hQ]; exact HP.out.1.lt
        have hki : k < ni + 1 := by omega
        have wk : IntKind.i64.wrap (k : Int) = (k : Int) := by rw [IntKind.wrap_i64]; omega
        by_cases hl0 : steps = t'
        · have q : decide (1 ≤ ((steps - t' : Nat) : Int)) = false := by simp; omega
          rw [q] at HC
          have k4 := k3.gone (((steps - t' : Nat) : Int) - 1)
          obtain ⟨W4, hW4⟩ : ∃ W4, W4 = W3.setCell ⟨X, 5, none⟩ (.int .i64 (((steps - t' : Nat) : Int) - 1)) := ⟨_, rfl⟩
          rw [← hW4] at HC k4
          have HE : Hid (ThM wb B X G fr h N nb (lnB bs) v bs pl eds seed jl s0 steps t (-1) W4) := ⟨_, _, _, _, k4, HNX.out, Or.inl ⟨rfl, by rw [hl0, HR.out, msettle_evs]⟩⟩
          have HW3 : Hid (W3 = wr.alloc (.cells #[.int .i64 op, .slice ao no co, .slice asp ns csp] 45)) := hW3
          clear hW4 hW3 k4 k3 rQ3 rP3 b3 HK HP HR HT i0 i1 i2 ho hsp fd hxm hxg hx q hlow hl0 r0 lr hr hps hpsg fp hno hns
          go_upto_region 8 with fail
          rw [← HW3.out]
          clear HW3 e0 e1 e2
          go_wp2_with fail
          refine HC.mono ?_
          clear HC
          rintro e w4 ⟨rfl, hw4⟩
          subst hw4
          go_wp2
          go_ret
          exact ⟨_, rfl, HE.out⟩
        · have q : decide (1 ≤ ((steps - t' : Nat) : Int)) = true := by simp; omega
          rw [q] at HC
          have k4 := k3.gone (((steps - t' : Nat) : Int) - 1)
          have rQ4 := rQ3.setOther (a := ⟨X, 5, none⟩) (show Q ≠ X by omega) (.int .i64 (((steps - t' : Nat) : Int) - 1))
          have rP4 := rP3.setOther (a := ⟨X, 5, none⟩) (show P ≠ X by omega) (.int .i64 (((steps - t' : Nat) : Int) - 1))
          obtain ⟨W4, hW4⟩ : ∃ W4, W4 = W3.setCell ⟨X, 5, none⟩ (.int .i64 (((steps - t' : Nat) : Int) - 1)) := ⟨_, rfl⟩
          rw [← hW4] at HC k4 rQ4 rP4
          have el : ((steps - t' : Nat) : Int) - 1 = ((steps - (t' + 1) : Nat) : Int) := by omega
          rw [el] at k4
          have x3 : W4.cell? ⟨X, 3, none⟩ = some (.slice (some ⟨N + 1, 0, none⟩) nb nb) := by rw [k4.mw.bx.cell (i := 3) (by omega), mwF_h (by omega), HH.out.2.2.1]
          have m1 : W4.cell? ⟨N + 1, b, none⟩ = some (.slice (some ⟨N + 3 + 2 * b, 0, none⟩) (ni + 1) (ni + 1)) := by rw [k4.tb.row.cell hb, HLB.out]
          have hkb : k < lnB bs b := by rw [HLB.out]; omega
          have hmv := k4.tb.ok b k hb hkb
          have m2 := (k4.tb.rows b hb).cell hkb
          obtain ⟨am, cm, hvm, lm⟩ := hmv.out
          rw [hvm] at m2 hmv
          have HCM := moves_any wb X G fr (mvAt eds b k).length cm h sP ((steps - (t' + 1) : Nat) : Int) (.slice av m cv) am (mvAt eds b k) W4 k4.mw hfr hmv rfl (HF.out.at b k)
          obtain ⟨s1, hs1⟩ : ∃ s1, (mvAt eds b k).foldl mvM sP = s1 := ⟨_, rfl⟩
          rw [hs1] at HCM
          have HNX1 : Hid (NxOk jl s1) := by rw [← hs1]; exact mvs_nx jl _ _ HNX.out
          have HS1 : Hid ((mvAt eds b k).foldl mvM sP = s1) := hs1
          generalize (mvAt eds b k).length = nm at *
          have HK4 : Hid (WkM wb B X G fr h N nb (lnB bs) v (mvAt eds) sP ((steps - (t' + 1) : Nat) : Int) (.slice av m cv) es W4) := k4
          have HQ4 : Hid (W4.rowIs Q 45 3 (fun q => if q = 0 then .int .i64 op else if q = 1 then .slice ao no co else .slice asp ns csp)) := rQ4
          have HP4 : Hid (W4.rowIs P 75 3 (fun q => if q = 0 then .slice apr npr cpr else if q = 1 then .slice (some ⟨b7, off7, none⟩) ni ci else .slice ae ne ce)) := rP4
          have HO : Hid (SlOf wb 5 ROpr (.slice ao no co) os ∧ os.length = no ∧ SlOf wb 3 RPl (.slice ar no cr) ps ∧ ps.length = no ∧ (∀ p ∈ ps, PlOk fr p) ∧ SlOf wb 2 RRg (.slice asp ns csp) sp ∧ sp.length = ns ∧ ∀ r ∈ sp, (r.cls = 0 ∨ r.cls = 1) ∧ 0 ≤ r.n ∧ r.n < 11) := ⟨ho, hno, hr, fp.1, fp.2, hsp, hns, fd⟩
          have HPC : Hid (wb.cell? ⟨bp, offp + b, none⟩ = some (.slice (some ⟨bq, offq, none⟩) ni cq) ∧ wb.cell? ⟨bq, offq + k, none⟩ = some (.slice ar no cr)) := ⟨HPQ.out, r0⟩
          have HXG : Hid (blk.instrs[k]? = some ⟨op, os, sp⟩ ∧ rows[k]? = some ps) := ⟨hxg, hpsg⟩
          have HW3 : Hid (W3 = wr.alloc (.cells #[.int .i64 op, .slice ao no co, .slice asp ns csp] 45)) := hW3
          have HQQ : Hid (wr.heap.size = Q) := hQ
          have HN : Hid (es.length = m) := hm
          clear hW4 hW3 k4 k3 rQ3 rP3 rQ4 rP4 b3 HK HP i0 i1 i2 ho hsp fd hxm hxg hx q hlow hQ el hm hno hns r0 lr hr hps hpsg fp hs1 hmv hvm lm
          go_upto_region 8 with fail
          rw [← HW3.out, HQQ.out]
          clear HW3 HQQ e0 e1 e2
          go_wp2_with fail
          refine HC.mono ?_
          clear HC
          rintro e w4 ⟨rfl, hw4⟩
          rw [hw4]
          clear hw4 w4
          --CUT2
          go_wp2_with fail
          refine HCM.mono ?_
          clear HCM x3 m1 m2 hkb
          rintro e w5 ⟨rfl, mw5, kp5⟩
          have k5 := HK4.out.kp mw5 kp5
          have d5 : Below w5.heap.size w5 w5.drew := (Below.refl _ _).drew
          have HK5d : Hid (WkM wb B X G fr h N nb (lnB bs) v (mvAt eds) s1 ((steps - (t' + 1) : Nat) : Int) (.slice av m cv) es w5.drew) := k5.below d5
          have rQ5 := HQ4.out.of_block (kp5.blk _ HQ4.out.lt (by omega) (by omega))
          have rP5 := HP4.out.of_block (kp5.blk _ HP4.out.lt (by omega) (by omega))
          have HQ5 : Hid (w5.drew.rowIs Q 45 3 (fun q => if q = 0 then .int .i64 op else if q = 1 then .slice ao no co else .slice asp ns csp)) := rQ5.of_block (d5.block _ rQ5.lt)
          have HP5 : Hid (w5.drew.rowIs P 75 3 (fun q => if q = 0 then .slice apr npr cpr else if q = 1 then .slice (some ⟨b7, off7, none⟩) ni ci else .slice ae ne ce)) := rP5.of_block (d5.block _ rP5.lt)
          have HCD := does_any wb X G fr h s1 ((steps - (t' + 1) : Nat) : Int) (.slice av m cv) op ao ar asp no co cr ns csp os ps w5.drew HK5d.out.mw hfr HO.out.1 HO.out.2.1 HO.out.2.2.1 HO.out.2.2.2.1 fno HO.out.2.2.2.2.1 aj nj cj jl sp HJ.out HNX1.out HO.out.2.2.2.2.2.1 HO.out.2.2.2.2.2.2.1 HO.out.2.2.2.2.2.2.2 seed HH.out.2.2.2
          obtain ⟨tk2, htk2⟩ : ∃ tk2, takesM seed blk.instrs ne (k : Int) (doesR jl s1 os ps sp) = tk2 := ⟨_, rfl⟩
          have HTK2 : Hid (takesM seed blk.instrs ne (k : Int) (doesR jl s1 os ps sp) = tk2) := htk2
          have HS5 : Hid ((fun w' => w'.cell? ⟨X, 2, none⟩ = some (.slice (some ⟨bp, offp, none⟩) np cp) ∧ w'.cell? ⟨bp, offp + b, none⟩ = some (.slice (some ⟨bq, offq, none⟩) ni cq) ∧ w'.cell? ⟨bq, offq + k, none⟩ = some (.slice ar no cr) ∧ w'.cell? ⟨Q, 0, none⟩ = some (.int .i64 op) ∧ w'.cell? ⟨Q, 1, none⟩ = some (.slice ao no co) ∧ w'.cell? ⟨Q, 2, none⟩ = some (.slice asp ns csp)) w5.drew) := ⟨by rw [HK5d.out.mw.bx.cell (i := 2) (by omega), mwF_h (by omega), HH.out.2.1], (HK5d.out.mw.low.cell lbp).trans HPC.out.1, (HK5d.out.mw.low.cell lbq).trans HPC.out.2, HQ5.out.cell (i := 0) (by omega), HQ5.out.cell (i := 1) (by omega), HQ5.out.cell (i := 2) (by omega)⟩
          clear k5 d5 rQ5 rP5 mw5 kp5 HK4 HQ4 HP4 htk2
          go_upto_region 11 with fail
          --CUT3
          refine wp_region_X (fun w' => w'.cell? ⟨X, 2, none⟩ = some (.slice (some ⟨bp, offp, none⟩) np cp) ∧ w'.cell? ⟨bp, offp + b, none⟩ = some (.slice (some ⟨bq, offq, none⟩) ni cq) ∧ w'.cell? ⟨bq, offq + k, none⟩ = some (.slice ar no cr) ∧ w'.cell? ⟨Q, 0, none⟩ = some (.int .i64 op) ∧ w'.cell? ⟨Q, 1, none⟩ = some (.slice ao no co) ∧ w'.cell? ⟨Q, 2, none⟩ = some (.slice asp ns csp)) 99 (by kernel_rfl) HS5.out (fun hHeld => ?_)
          refine wpXt (v := ?_) 0 rfl (by kernel_rfl) (fun _ _ _ h => h) (by rfl) ?_ hHeld ?_
          rotate_left
          · intro w' hSw
            go_simp <;> with_reducible rfl
          try simp only [Act.put, List.setIfInBounds_toArray, List.set_cons_zero, List.set_cons_succ]
          refine wpXt (v := ?_) 1 rfl (by kernel_rfl) (fun _ _ _ h => h) (by rfl) ?_ hHeld ?_
          rotate_left
          · intro w' hSw
            go_simp <;> with_reducible rfl
          try simp only [Act.put, List.setIfInBounds_toArray, List.set_cons_zero, List.set_cons_succ]
          refine wpXt (v := ?_) 2 rfl (by kernel_rfl) (fun _ _ _ h => h) (by rfl) ?_ hHeld ?_
          rotate_left
          · intro w' hSw
            go_simp <;> with_reducible rfl
          try simp only [Act.put, List.setIfInBounds_toArray, List.set_cons_zero, List.set_cons_succ]
          refine wpXt (v := ?_) 3 rfl (by kernel_rfl) (fun _ _ _ h => h) (by rfl) ?_ hHeld ?_
          rotate_left
          · intro w' hSw
            go_simp <;> with_reducible rfl
          try simp only [Act.put, List.setIfInBounds_toArray, List.set_cons_zero, List.set_cons_succ]
          refine wpXt (v := ?_) 4 rfl (by kernel_rfl) (fun _ _ _ h => h) (by rfl) ?_ hHeld ?_
          rotate_left
          · intro w' hSw
            go_simp <;> with_reducible rfl
          try simp only [Act.put, List.setIfInBounds_toArray, List.set_cons_zero, List.set_cons_succ]
          refine wpXt (v := ?_) 5 rfl (by kernel_rfl) (fun _ _ _ h => h) (by rfl) ?_ hHeld ?_
          rotate_left
          · intro w' hSw
            go_simp <;> with_reducible rfl
          try simp only [Act.put, List.setIfInBounds_toArray, List.set_cons_zero, List.set_cons_succ]
          refine wpXt (v := ?_) 6 rfl (by kernel_rfl) (fun _ _ _ h => h) (by rfl) ?_ hHeld ?_
          rotate_left
          · intro w' hSw
            go_simp <;> with_reducible rfl
          try simp only [Act.put, List.setIfInBounds_toArray, List.set_cons_zero, List.set_cons_succ]
          refine wpXt (v := ?_) 7 rfl (by kernel_rfl) (fun _ _ _ h => h) (by rfl) ?_ hHeld ?_
          rotate_left
          · intro w' hSw
            go_simp <;> with_reducible rfl
          try simp only [Act.put, List.setIfInBounds_toArray, List.set_cons_zero, List.set_cons_succ]
          refine wpXt (v := ?_) 8 rfl (by kernel_rfl) (fun _ _ _ h => h) (by rfl) ?_ hHeld ?_
          rotate_left
          · intro w' hSw
            go_simp <;> with_reducible rfl
          try simp only [Act.put, List.setIfInBounds_toArray, List.set_cons_zero, List.set_cons_succ]
          refine wpXt (v := ?_) 9 rfl (by kernel_rfl) (fun _ _ _ h => h) (by rfl) ?_ hHeld ?_
          rotate_left
          · intro w' hSw
            go_simp <;> with_reducible rfl
          try simp only [Act.put, List.setIfInBounds_toArray, List.set_cons_zero, List.set_cons_succ]
          refine wpXt (v := ?_) 10 rfl (by kernel_rfl) (fun _ _ _ h => h) (by rfl) ?_ hHeld ?_
          rotate_left
          · intro w' hSw
            go_simp <;> with_reducible rfl
          try simp only [Act.put, List.setIfInBounds_toArray, List.set_cons_zero, List.set_cons_succ]
          refine wpXt (v := ?_) 11 rfl (by kernel_rfl) (fun _ _ _ h => h) (by rfl) ?_ hHeld ?_
          rotate_left
          · intro w' hSw
            go_simp <;> with_reducible rfl
          try simp only [Act.put, List.setIfInBounds_toArray, List.set_cons_zero, List.set_cons_succ]
          refine wpXs 12 rfl (by kernel_rfl) (fun K hK => ?_)
          go_simp
          refine HCD.mono ?_
          clear HCD
          rintro e w6 ⟨ax, nx, cx, rfl, hnr, s6, o6, mw6, nx6, kp6⟩
          have k6 := HK5d.out.kp mw6 kp6
          have HK6 : Hid (WkM wb B X G fr h N nb (lnB bs) v (mvAt eds) (doesS seed op jl s1 os ps sp) ((steps - (t' + 1) : Nat) : Int) (.slice av m cv) es w6) := k6
          have HP6 : Hid (w6.rowIs P 75 3 (fun q => if q = 0 then .slice apr npr cpr else if q = 1 then .slice (some ⟨b7, off7, none⟩) ni ci else .slice ae ne ce)) := HP5.out.of_block (kp6.blk _ HP5.out.lt (by omega) (by omega))
          have rQ6 := HQ5.out.of_block (kp6.blk _ HQ5.out.lt (by omega) (by omega))
          have HNX6 : Hid (NxOk jl (doesS seed op jl s1 os ps sp)) := nx6
          have HRD6 : Hid (RdM w6 B (.slice av m cv) (⟨b, k, doesR jl s1 os ps sp, tk2⟩, .slice ax nx cx) ∧ (doesR jl s1 os ps sp).length = nx) := ⟨⟨s6, Or.inr fun g hg => by
            have h1 := o6 g hg
            have h2 := HK5d.out.lB
            exact ⟨by omega, h1.2, fun e => by have h3 := own_base HK5d.out.own e.symm; omega⟩⟩, hnr.symm⟩
          have HS6 : Hid ((fun w' => w'.cell? ⟨X, 2, none⟩ = some (.slice (some ⟨bp, offp, none⟩) np cp) ∧ w'.cell? ⟨bp, offp + b, none⟩ = some (.slice (some ⟨bq, offq, none⟩) ni cq) ∧ w'.cell? ⟨bq, offq + k, none⟩ = some (.slice ar no cr) ∧ w'.cell? ⟨Q, 0, none⟩ = some (.int .i64 op) ∧ w'.cell? ⟨Q, 1, none⟩ = some (.slice ao no co) ∧ w'.cell? ⟨Q, 2, none⟩ = some (.slice asp ns csp)) w6) := ⟨by rw [k6.mw.bx.cell (i := 2) (by omega), mwF_h (by omega), HH.out.2.1], (k6.mw.low.cell lbp).trans HPC.out.1, (k6.mw.low.cell lbq).trans HPC.out.2, rQ6.cell (i := 0) (by omega), rQ6.cell (i := 1) (by omega), rQ6.cell (i := 2) (by omega)⟩
          clear k6 kp6 mw6 s6 o6 nx6 hnr rQ6
          refine hK.out _ _ HS6.out (fun hHeld => ?_)
          clear hK K
          try simp only [Act.put, List.setIfInBounds_toArray, List.set_cons_zero, List.set_cons_succ]
          refine wpXs 13 rfl (by kernel_rfl) (fun K hK => ?_)
          go_simp
          refine hK.out _ _ HS6.out (fun hHeld => ?_)
          clear hK K
          try simp only [Act.put, List.setIfInBounds_toArray, List.set_cons_zero, List.set_cons_succ]
          refine wpAnyX_done (by kernel_rfl) ?_ _

          have d6 : Below w6.heap.size w6 w6.drew := (Below.refl _ _).drew
          have hlw : Below wb.heap.size wb w6.drew := HK6.out.mw.low.trans (d6.mono HK6.out.mw.low.size)
          have s6 := HRD6.out.1.1
          simp only at s6
          have HCT := takes_any seed blk.instrs (.slice apr npr cpr) (some ⟨b7, off7, none⟩) ae ni ci ne ce (k : Int) (doesR jl s1 os ps sp) ax nx cx tk2 w6.drew (HSI.out.below hlw (RIns.below hlw)) HBLK.out.2.1 (by unfold longest; omega) HRD6.out.2 (s6.below d6 fun _ _ h => h) HTK2.out
          have c4 : w6.cell? ⟨X, 4, none⟩ = some (.int .i64 seed) := by rw [HK6.out.mw.bx.cell (i := 4) (by omega), mwF_h (by omega), HH.out.2.2.2]
          have p0 : w6.cell? ⟨P, 0, none⟩ = some (.slice apr npr cpr) := HP6.out.cell (i := 0) (by omega)
          have p1 : w6.cell? ⟨P, 1, none⟩ = some (.slice (some ⟨b7, off7, none⟩) ni ci) := HP6.out.cell (i := 1) (by omega)
          have p2 : w6.cell? ⟨P, 2, none⟩ = some (.slice ae ne ce) := HP6.out.cell (i := 2) (by omega)
          have lX6 := HK6.out.mw.bx.lt
          have lP6 := HP6.out.lt
          have HSF : Hid (∀ w', Below w6.heap.size w6 w' → (fun w' => w'.cell? ⟨X, 4, none⟩ = some (.int .i64 seed) ∧ w'.cell? ⟨P, 0, none⟩ = some (.slice apr npr cpr) ∧ w'.cell? ⟨P, 1, none⟩ = some (.slice (some ⟨b7, off7, none⟩) ni ci) ∧ w'.cell? ⟨P, 2, none⟩ = some (.slice ae ne ce)) w') := fun w' hh => ⟨(hh.cell lX6).trans c4, (hh.cell lP6).trans p0, (hh.cell lP6).trans p1, (hh.cell lP6).trans p2⟩
          clear d6 hlw s6 c4 p0 p1 p2 HS5 HS6 HK5d HP5 HQ5 hHeld
          go_upto_region 12 with fail
          --CUT4
          refine wp_region_X (fun w' => w'.cell? ⟨X, 4, none⟩ = some (.int .i64 seed) ∧ w'.cell? ⟨P, 0, none⟩ = some (.slice apr npr cpr) ∧ w'.cell? ⟨P, 1, none⟩ = some (.slice (some ⟨b7, off7, none⟩) ni ci) ∧ w'.cell? ⟨P, 2, none⟩ = some (.slice ae ne ce)) 99 (by kernel_rfl) (HSF.out _ (Below.refl _ _).drew) (fun hHeld => ?_)
          refine wpXt (v := ?_) 0 rfl (by kernel_rfl) (fun _ _ _ h => h) (by rfl) ?_ hHeld ?_
          rotate_left
          · intro w' hSw
            go_simp <;> with_reducible rfl
          try simp only [Act.put, List.setIfInBounds_toArray, List.set_cons_zero, List.set_cons_succ]
          refine wpXt (v := ?_) 1 rfl (by kernel_rfl) (fun _ _ _ h => h) (by rfl) ?_ hHeld ?_
          rotate_left
          · intro w' hSw
            go_simp <;> with_reducible rfl
          try simp only [Act.put, List.setIfInBounds_toArray, List.set_cons_zero, List.set_cons_succ]
          refine wpXt (v := ?_) 2 rfl (by kernel_rfl) (fun _ _ _ h => h) (by rfl) ?_ hHeld ?_
          rotate_left
          · intro w' hSw
            go_simp <;> with_reducible rfl
          try simp only [Act.put, List.setIfInBounds_toArray, List.set_cons_zero, List.set_cons_succ]
          refine wpXt (v := ?_) 3 rfl (by kernel_rfl) (fun _ _ _ h => h) (by rfl) ?_ hHeld ?_
          rotate_left
          · intro w' hSw
            go_simp <;> with_reducible rfl
          try simp only [Act.put, List.setIfInBounds_toArray, List.set_cons_zero, List.set_cons_succ]
          refine wpXt (v := ?_) 4 rfl (by kernel_rfl) (fun _ _ _ h => h) (by rfl) ?_ hHeld ?_
          rotate_left
          · intro w' hSw
            go_simp <;> with_reducible rfl
          try simp only [Act.put, List.setIfInBounds_toArray, List.set_cons_zero, List.set_cons_succ]
          refine wpXt (v := ?_) 5 rfl (by kernel_rfl) (fun _ _ _ h => h) (by rfl) ?_ hHeld ?_
          rotate_left
          · intro w' hSw
            go_simp <;> with_reducible rfl
          try simp only [Act.put, List.setIfInBounds_toArray, List.set_cons_zero, List.set_cons_succ]
          refine wpXt (v := ?_) 6 rfl (by kernel_rfl) (fun _ _ _ h => h) (by rfl) ?_ hHeld ?_
          rotate_left
          · intro w' hSw
            go_simp <;> with_reducible rfl
          try simp only [Act.put, List.setIfInBounds_toArray, List.set_cons_zero, List.set_cons_succ]
          refine wpXs 7 rfl (by kernel_rfl) (fun K hK => ?_)
          go_simp
          refine HCT.mono ?_
          clear HCT
          rintro e w7 ⟨rfl, hb7⟩
          have hb7' : Below w6.heap.size w6 w7 := ((Below.refl _ _).drew).trans hb7
          have HK7 : Hid (WkM wb B X G fr h N nb (lnB bs) v (mvAt eds) (doesS seed op jl s1 os ps sp) ((steps - (t' + 1) : Nat) : Int) (.slice av m cv) es w7) := HK6.out.below hb7'
          have HP7 : Hid (w7.rowIs P 75 3 (fun q => if q = 0 then .slice apr npr cpr else if q = 1 then .slice (some ⟨b7, off7, none⟩) ni ci else .slice ae ne ce)) := HP6.out.of_block (hb7'.block _ HP6.out.lt)
          have HRD7 : Hid (RdM w7 B (.slice av m cv) (⟨b, k, doesR jl s1 os ps sp, tk2⟩, .slice ax nx cx)) := HRD6.out.1.keep hb7'.size fun g _ hg hn => ⟨hb7'.block g hg, hn⟩
          have HB7 : Hid (Below w6.heap.size w6 w7) := hb7'
          clear hb7 hb7'
          refine hK.out _ _ (HSF.out _ HB7.out) (fun hHeld => ?_)
          clear hK K
          try simp only [Act.put, List.setIfInBounds_toArray, List.set_cons_zero, List.set_cons_succ]
          refine wpXs 8 rfl (by kernel_rfl) (fun K hK => ?_)
          go_simp
          refine hK.out _ _ (HSF.out _ HB7.out) (fun hHeld => ?_)
          clear hK K
          try simp only [Act.put, List.setIfInBounds_toArray, List.set_cons_zero, List.set_cons_succ]
          refine wpAnyX_done (by kernel_rfl) ?_ _

          have own6 := HK7.out.own
          rw [HN.out] at own6
          have oA := own6.alloc (.cells #[.int .i64 (b : Int), .int .i64 (k : Int), .slice ax nx cx, .int .i64 tk2] 58)
          have x31 : w7.cell? ⟨X, 31, none⟩ = some (.slice av m cv) := by rw [HK7.out.mw.bx.cell (i := 31) (by omega), mwF_31]
          have hB7 := HK7.out.lB
          have hbA : Below w7.heap.size w7 (w7.alloc (.cells #[.int .i64 (b : Int), .int .i64 (k : Int), .slice ax nx cx, .int .i64 tk2] 58)) := (Below.refl _ _).alloc (Nat.le_refl _) _
          clear hHeld
          --CUT5
          go_wp2_with (at_builtin; go_must (refine wpList_append_lies _ rfl _ _ 52 rfl B 58 iE (.agg #[.int .i64 0, .int .i64 0, .slice none 0 0, .int .i64 0]) 4 48 Try.underlying52 hiE hzE hzE1 hzE2 rfl (by omega) (.slice av m cv) m _ (by rfl) oA ⟨w7.heap.size, 0, none⟩ 1 1 [.int .i64 (b : Int), .int .i64 (k : Int), .slice ax nx cx, .int .i64 tk2] (by rfl) (by rfl) ?e1 ?e2 (by omega) ?e3 ?e4 ?e5 (w7.heap.size + 1) ?e6 ?_))
          rotate_left
          any_goals (first | (exact ⟨rfl, rfl, rfl, rfl⟩) | (exact ru_news rfl) | rfl | (show Value.oneCell' _ = true; simp [Value.oneCell']) | (intro u hu; simp at hu; rcases hu with rfl | rfl | rfl | rfl <;> rfl) | (unfold maxLen; omega) | omega | (simp; omega) | (simp; rfl) | (simp; done))
          intro g cap w8 hown hgrow hat hgl
          have hat2 : (Value.slice av m cv).ownBlock = some g ∨ w7.heap.size ≤ g := by
            rcases hat with h1 | h1
            · exact Or.inl h1
            · right; omega
          have k8 := HK7.out.push HRD7.out hbA hgrow HN.out hown hat2
          have nX7 : some X ≠ (Value.slice av m cv).ownBlock := fun e => by have h1 := own_base HK7.out.own e.symm; have h2 := HK7.out.lX; omega
          have bx8 := HK7.out.mw.bx.of_block ((hgrow.block X (by have h1 := HK7.out.mw.bx.lt; have h2 := hbA.size; omega) nX7).trans (hbA.block X HK7.out.mw.bx.lt))
          have c31 : w8.cell? ⟨X, 31, none⟩ = some (.slice av m cv) := by rw [bx8.cell (i := 31) (by omega), mwF_31]
          have z31 := bx8.frozen 31
          have rP8 := HP7.out.of_block ((hgrow.block P (by have h1 := HP7.out.lt; have h2 := hbA.size; omega) hPv).trans (hbA.block P HP7.out.lt))
          have HK8 : Hid (WkM wb B X G fr h N nb (lnB bs) v (mvAt eds) (doesS seed op jl s1 os ps sp) ((steps - (t' + 1) : Nat) : Int) (.slice (some ⟨g, 0, none⟩) (m + 1) cap) (es ++ [(⟨b, k, doesR jl s1 os ps sp, tk2⟩, .slice ax nx cx)]) (w8.setCell ⟨X, 31, none⟩ (.slice (some ⟨g, 0, none⟩) (m + 1) cap))) := k8
          have HP8 : Hid ((w8.setCell ⟨X, 31, none⟩ (.slice (some ⟨g, 0, none⟩) (m + 1) cap)).rowIs P 75 3 (fun q => if q = 0 then .slice apr npr cpr else if q = 1 then .slice (some ⟨b7, off7, none⟩) ni ci else .slice ae ne ce) ∧ some P ≠ (Value.slice (some ⟨g, 0, none⟩) (m + 1) cap).ownBlock) := ⟨rP8.setOther (a := ⟨X, 31, none⟩) (show P ≠ X by omega) _, fun e => by
            have e' : P = g := by simpa [Value.ownBlock] using e
            rcases hat2 with h1 | h1
            · exact hPv (by rw [h1, e'])
            · have := HP7.out.lt; omega⟩
          have HR8 : Hid (mrunM bs pl eds seed jl s0 (t' + 1) = msettle bs eds b (k + 1) tk2 (doesS seed op jl s1 os ps sp) ((es ++ [((⟨b, k, doesR jl s1 os ps sp, tk2⟩ : MEvt), Value.slice ax nx cx)]).map (·.1))) := by
            show mrStep bs pl eds seed jl (mrunM bs pl eds seed jl s0 t') = _
            have epl : plsAt pl b k = ps := by unfold plsAt; rw [List.getD_eq_getElem?_getD, List.getD_eq_getElem?_getD, HSQ.out.2.2]; simp only [Option.getD_some]; rw [HXG.out.2]; rfl
            rw [HR.out, mstep_ins b k tk sP (es.map (·.1)) blk ⟨op, os, sp⟩ HBLK.out.1 HXG.out.1]
            simp only [HBLK.out.2.2.1, HS1.out, epl, HTK2.out, List.map_append, List.map_cons, List.map_nil]
          have HT8 : Hid (k + 1 = ni → ne = 0 ∨ 0 ≤ tk2 ∧ tk2 < (ne : Int)) := by
            show _ → _
            intro h
            rw [← HTK2.out]
            exact takes_bdM seed blk.instrs ne k _ (by rw [HBLK.out.2.1]; exact h)
          have HLE : Hid ((es ++ [((⟨b, k, doesR jl s1 os ps sp, tk2⟩ : MEvt), Value.slice ax nx cx)]).length < t' + 1) := by show _ < _; rw [List.length_append]; simp; omega
          clear hown hgrow hat hgl hat2 k8 nX7 bx8 rP8 oA own6 hbA x31 HK7 HP7 HRD7 HR HT HK6 HP6 HRD6 HB7
          go_wp2
          go_roundw
          case rel => exact ⟨k + 1, t' + 1, tk2, _, _, _, by omega, by go_num, rfl, by omega, by omega, HLE.out, HK8, HP8, HR8, HT8, HNX6⟩
          case measure => simp [intOf]; omega
      · have hkn : k = ni := by omega
        subst hkn
        have htk := HT.out rfl
        have hkb : k < lnB bs b := by rw [HLB.out]; omega
        have dr : Below wr.heap.size wr wr.drew := (Below.refl _ _).drew
        have HKd : Hid (WkM wb B X G fr h N nb (lnB bs) v (mvAt eds) sP ((steps - t' : Nat) : Int) ve es wr.drew) := HK.out.below dr
        have HPd : Hid (wr.drew.rowIs P 75 3 (fun q => if q = 0 then .slice apr npr cpr else if q = 1 then .slice ai k ci else .slice ae ne ce)) := HP.out.1.of_block (dr.block _ HP.out.1.lt)
        have hmv := HKd.out.tb.ok b k hb hkb
        have m2 := (HKd.out.tb.rows b hb).cell hkb
        obtain ⟨am, cm, hvm, lm⟩ := hmv.out
        rw [hvm] at m2 hmv
        have HCM := moves_any wb X G fr (mvAt eds b k).length cm h sP ((steps - t' : Nat) : Int) ve am (mvAt eds b k) wr.drew HKd.out.mw hfr hmv rfl (HF.out.at b k)
        obtain ⟨s1, hs1⟩ : ∃ s1, (mvAt eds b k).foldl mvM sP = s1 := ⟨_, rfl⟩
        rw [hs1] at HCM
        have HNX1 : Hid (NxOk jl s1) := by rw [← hs1]; exact mvs_nx jl _ _ HNX.out
        have HS1 : Hid ((mvAt eds b k).foldl mvM sP = s1) := hs1
        generalize (mvAt eds b k).length = nm at *
        have HS9 : Hid ((fun w' => w'.cell? ⟨X, 3, none⟩ = some (.slice (some ⟨N + 1, 0, none⟩) nb nb) ∧ w'.cell? ⟨N + 1, b, none⟩ = some (.slice (some ⟨N + 3 + 2 * b, 0, none⟩) (k + 1) (k + 1)) ∧ w'.cell? ⟨N + 3 + 2 * b, k, none⟩ = some (.slice am nm cm) ∧ w'.cell? ⟨P, 1, none⟩ = some (.slice ai k ci)) wr.drew) := ⟨by rw [HKd.out.mw.bx.cell (i := 3) (by omega), mwF_h (by omega), HH.out.2.2.1], by rw [HKd.out.tb.row.cell hb, HLB.out], m2, HPd.out.cell (i := 1) (by omega)⟩
        clear HK HP hmv m2 hvm lm hs1 dr hkb
        have hki : k < k + 1 := by omega
        have hkI : (k : Int) < (k : Int) + 1 := by omega
        have wk : IntKind.i64.wrap (k : Int) = (k : Int) := by rw [IntKind.wrap_i64]; omega
        go_upto_region 15 with fail
        --CUT6
        refine wp_region_X (fun w' => w'.cell? ⟨X, 3, none⟩ = some (.slice (some ⟨N + 1, 0, none⟩) nb nb) ∧ w'.cell? ⟨N + 1, b, none⟩ = some (.slice (some ⟨N + 3 + 2 * b, 0, none⟩) (k + 1) (k + 1)) ∧ w'.cell? ⟨N + 3 + 2 * b, k, none⟩ = some (.slice am nm cm) ∧ w'.cell? ⟨P, 1, none⟩ = some (.slice ai k ci)) 99 (by kernel_rfl) (HS9.out) (fun hHeld => ?_)
        refine wpXt (v := ?_) 0 rfl (by kernel_rfl) (fun _ _ _ h => h) (by rfl) ?_ hHeld ?_
        rotate_left
        · intro w' hSw
          go_simp <;> with_reducible rfl
        try simp only [Act.put, List.setIfInBounds_toArray, List.set_cons_zero, List.set_cons_succ]
        refine wpXt (v := ?_) 1 rfl (by kernel_rfl) (fun _ _ _ h => h) (by rfl) ?_ hHeld ?_
        rotate_left
        · intro w' hSw
          go_simp <;> with_reducible rfl
        try simp only [Act.put, List.setIfInBounds_toArray, List.set_cons_zero, List.set_cons_succ]
        refine wpXt (v := ?_) 2 rfl (by kernel_rfl) (fun _ _ _ h => h) (by rfl) ?_ hHeld ?_
        rotate_left
        · intro w' hSw
          go_simp <;> with_reducible rfl
        try simp only [Act.put, List.setIfInBounds_toArray, List.set_cons_zero, List.set_cons_succ]
        refine wpXt (v := ?_) 3 rfl (by kernel_rfl) (fun _ _ _ h => h) (by rfl) ?_ hHeld ?_
        rotate_left
        · intro w' hSw
          go_simp <;> with_reducible rfl
        try simp only [Act.put, List.setIfInBounds_toArray, List.set_cons_zero, List.set_cons_succ]
        refine wpXt (v := ?_) 4 rfl (by kernel_rfl) (fun _ _ _ h => h) (by rfl) ?_ hHeld ?_
        rotate_left
        · intro w' hSw
          go_simp <;> with_reducible rfl
        try simp only [Act.put, List.setIfInBounds_toArray, List.set_cons_zero, List.set_cons_succ]
        refine wpXt (v := ?_) 5 rfl (by kernel_rfl) (fun _ _ _ h => h) (by rfl) ?_ hHeld ?_
        rotate_left
        · intro w' hSw
          go_simp <;> with_reducible rfl
        try simp only [Act.put, List.setIfInBounds_toArray, List.set_cons_zero, List.set_cons_succ]
        refine wpXt (v := ?_) 6 rfl (by kernel_rfl) (fun _ _ _ h => h) (by rfl) ?_ hHeld ?_
        rotate_left
        · intro w' hSw
          go_simp <;> with_reducible rfl
        try simp only [Act.put, List.setIfInBounds_toArray, List.set_cons_zero, List.set_cons_succ]
        refine wpXt (v := ?_) 7 rfl (by kernel_rfl) (fun _ _ _ h => h) (by rfl) ?_ hHeld ?_
        rotate_left
        · intro w' hSw
          go_simp <;> with_reducible rfl
        try simp only [Act.put, List.setIfInBounds_toArray, List.set_cons_zero, List.set_cons_succ]
        refine wpXt (v := ?_) 8 rfl (by kernel_rfl) (fun _ _ _ h => h) (by rfl) ?_ hHeld ?_
        rotate_left
        · intro w' hSw
          go_simp <;> with_reducible rfl
        try simp only [Act.put, List.setIfInBounds_toArray, List.set_cons_zero, List.set_cons_succ]
        --CUT8
        refine wpXt (v := ?_) 9 rfl (by kernel_rfl) (fun _ _ _ h => h) (by rfl) ?_ hHeld ?_
        rotate_left
        · intro w' hSw
          go_simp <;> with_reducible rfl
        try simp only [Act.put, List.setIfInBounds_toArray, List.set_cons_zero, List.set_cons_succ]
        refine wpXt (v := ?_) 10 rfl (by kernel_rfl) (fun _ _ _ h => h) (by rfl) ?_ hHeld ?_
        rotate_left
        · intro w' hSw
          go_simp <;> with_reducible rfl
        try simp only [Act.put, List.setIfInBounds_toArray, List.set_cons_zero, List.set_cons_succ]
        refine wpXt (v := ?_) 11 rfl (by kernel_rfl) (fun _ _ _ h => h) (by rfl) ?_ hHeld ?_
        rotate_left
        · intro w' hSw
          go_simp <;> with_reducible rfl
        try simp only [Act.put, List.setIfInBounds_toArray, List.set_cons_zero, List.set_cons_succ]
        refine wpXt (v := ?_) 12 rfl (by kernel_rfl) (fun _ _ _ h => h) (by rfl) ?_ hHeld ?_
        rotate_left
        · intro w' hSw
          go_simp <;> with_reducible rfl
        try simp only [Act.put, List.setIfInBounds_toArray, List.set_cons_zero, List.set_cons_succ]
        --CUT9
        refine wpXs 13 rfl (by kernel_rfl) (fun K hK => ?_)
        go_simp
        refine HCM.mono ?_
        clear HCM
        rintro e w9 ⟨rfl, mw9, kp9⟩
        have k9 := HKd.out.kp mw9 kp9
        have rP9 := HPd.out.of_block (kp9.blk _ HPd.out.lt (by omega) (by omega))
        have far1 := k9.tb.far (N + 1) (by omega) (by omega)
        have far2 := k9.tb.far (N + 3 + 2 * b) (by omega) (by omega)
        have HS10 : Hid ((fun w' => w'.cell? ⟨X, 3, none⟩ = some (.slice (some ⟨N + 1, 0, none⟩) nb nb) ∧ w'.cell? ⟨N + 1, b, none⟩ = some (.slice (some ⟨N + 3 + 2 * b, 0, none⟩) (k + 1) (k + 1)) ∧ w'.cell? ⟨N + 3 + 2 * b, k, none⟩ = some (.slice am nm cm) ∧ w'.cell? ⟨P, 1, none⟩ = some (.slice ai k ci)) w9) := ⟨by rw [k9.mw.bx.cell (i := 3) (by omega), mwF_h (by omega), HH.out.2.2.1], kp9.cell far1.1 far1.2.1 HS9.out.2.1, kp9.cell far2.1 far2.2.1 HS9.out.2.2.1, rP9.cell (i := 1) (by omega)⟩
        have HK9 : Hid (WkM wb B X G fr h N nb (lnB bs) v (mvAt eds) s1 ((steps - t' : Nat) : Int) ve es w9) := k9
        have HP9 : Hid (w9.rowIs P 75 3 (fun q => if q = 0 then .slice apr npr cpr else if q = 1 then .slice ai k ci else .slice ae ne ce)) := rP9
        clear k9 rP9 far1 far2 mw9 kp9
        refine hK.out _ _ HS10.out (fun hHeld => ?_)
        clear hK K
        try simp only [Act.put, List.setIfInBounds_toArray, List.set_cons_zero, List.set_cons_succ]
        refine wpAnyX_done (by kernel_rfl) ?_ _

        --CUT7
        clear hHeld HS9 HS10 HKd HPd
        have p2 : w9.cell? ⟨P, 2, none⟩ = some (.slice ae ne ce) := HP9.out.cell (i := 2) (by omega)
        by_cases hne0 : ne = 0
        · have HE : Hid (ThM wb B X G fr h N nb (lnB bs) v bs pl eds seed jl s0 steps t (-1) w9) := by
            have hst2 : msettle bs eds b k tk sP (es.map (·.1)) = ⟨.stop, (mvAt eds b blk.instrs.length).foldl mvM sP, es.map (·.1)⟩ := msettle_end b k tk sP _ blk HBLK.out.1 (by rw [HBLK.out.2.1]; exact Nat.le_refl _) (List.length_eq_zero_iff.1 (by rw [HBLK.out.2.2.1]; exact hne0))
            refine ⟨_, _, _, _, HK9.out, HNX1.out, Or.inl ⟨rfl, ?_⟩⟩
            have h9 := mevs_at (bs := bs) (pl := pl) (eds := eds) (seed := seed) (jl := jl) (s0 := s0) ht2 (by rw [HR.out, hst2])
            rw [h9, HR.out, hst2]
          subst hne0
          clear HK9 HP9 HR HT htk
          go_wp2
          go_ret
          exact ⟨_, rfl, HE.out⟩
        · have htk2 := htk.resolve_left hne0
          obtain ⟨J, hJ⟩ : ∃ J : Nat, tk = (J : Int) := ⟨tk.toNat, by omega⟩
          subst hJ
          have hJn : J < ne := by omega
          have hJl : J < blk.edges.length := by rw [HBLK.out.2.2.1]; exact hJn
          obtain ⟨b9, off9, rfl, lb9, i0⟩ := edg_atK HSE.out J hJl
          obtain ⟨e, he⟩ : ∃ e, blk.edges[J]'hJl = e := ⟨_, rfl⟩
          have heg : blk.edges[((J : Int)).toNat]? = some e := by rw [Int.toNat_natCast, List.getElem?_eq_getElem hJl, he]
          have hem : e ∈ blk.edges := by rw [← he]; exact List.getElem_mem hJl
          rw [he] at i0
          have fb := HFE.out e hem
          obtain ⟨eb, args⟩ := e
          simp only at i0 fb
          obtain ⟨b2, hb2⟩ : ∃ b2 : Nat, eb = (b2 : Int) := ⟨eb.toNat, by omega⟩
          subst hb2
          have hb2l : b2 < bs.length := by omega
          have c0 := (HK9.out.mw.low.cell (p := ⟨b9, _, none⟩) lb9).trans i0
          have hrun2 : mrunM bs pl eds seed jl s0 t' = ⟨.come b2, s1, es.map (·.1)⟩ := by
            rw [HR.out, msettle_on b k (J : Int) sP _ blk ⟨(b2 : Int), args⟩ b2 HBLK.out.1 (by rw [HBLK.out.2.1]; exact Nat.le_refl _) heg (Int.toNat_natCast b2), HBLK.out.2.1, HS1.out]
          have HE : Hid (ThM wb B X G fr h N nb (lnB bs) v bs pl eds seed jl s0 steps t (b2 : Int) w9) := ⟨_, _, _, _, HK9.out, HNX1.out, Or.inr ⟨b2, t', rfl, hb2l, ht1, ht2, rfl, hrun2⟩⟩
          have q0 : ((ne : Int) == 0) = false := by simp; omega
          have hJc : J < ne + 1 := by omega
          have wJ : IntKind.i64.wrap (J : Int) = (J : Int) := by rw [IntKind.wrap_i64]; omega
          clear htk htk2 hne0 he heg hem fb hrun2 hb2l HR HT i0 HK9 HP9
          go_wp2
          go_ret
          exact ⟨_, rfl, HE.out⟩
end Go.Proofs.Ytjbjnndmpheedaa
