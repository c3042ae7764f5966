/-
  The contract of the statements' own 'own': all of a function, in memory of its own.
-/
import Derived.Test.YtanhfkpphdbaaaaO1
namespace Go.Proofs.Ytanhfkpphdbaaaa
open Go.RowKit
set_option linter.unusedVariables false

/-- The end: the values are copied, and what is answered is laid. -/
theorem own_end {N k nv co : Nat} {w0 : World} {vv0 vb0 : Value} {f : Fn} {κ : Nat → Nat} {w w9 W10 : World} {ao a9 : Option Addr} {c9 : Nat} {bx : Nat → Value × Value × Value} (h : OwS N w0 vv0 vb0 f.blocks κ w k (.slice ao k co) bx) (hnv : f.values.length = nv) (hnb : f.blocks.length = k) (hb9 : Below w.heap.size w w9) (hown : w9.ownsRow N 3 1 (.slice a9 nv c9) nv (f.values.flatMap cI)) (hat : nv = 0 ∧ a9 = none ∨ a9 = some ⟨w.heap.size, 0, none⟩)
    (hW : W10 = (w9.setCell ⟨N + 1, 0, none⟩ (.slice a9 nv c9)).setCell ⟨N + 1, 1, none⟩ (.slice ao k co)) : ∃ κ' bx', OwR N κ' W10 f (.slice a9 nv c9) (.slice ao k co) bx' ∧ Below N w0 W10 := by
  have hOw : Only (fun r => r = 5) κ κ w W10 := by
    rw [hW]
    exact ((Only.of_below hb9).set (Or.inr h.kR) 0 _).set (Or.inr h.kR) 1 _
  have hsz : W10.heap.size = w9.heap.size := by rw [hW]; simp [World.setCell]
  have hsz9 := hb9.size
  have hlR := h.rR.lt
  have hbN : Below N w0 W10 := h.bel.trans (hOw.below h.szN fun b hb => by rw [h.lowN b hb]; omega)
  have hov : ∀ g, (Value.slice a9 nv c9).ownBlock = some g → g ≠ N + 1 → W10.heap[g]? = w9.heap[g]? := fun g _ hne => by
    rw [hW, Below.heap_setCell _ _ _ _ hne, Below.heap_setCell _ _ _ _ hne]
  rcases hat with ⟨h0, ha⟩ | ha
  · subst ha
    have o1 := own_only h.ob h.kb hOw (by omega)
    refine ⟨κ, bx, ⟨?_, fun g hg => by simp [Value.ownBlock] at hg, ?_, o1.2, fun j hj => (h.blk j (by omega) hj).only hOw (by omega) (by omega) (by omega), fun b hb => h.fresh b (by omega), h.lowN, Nat.le_trans h.szN hOw.size⟩, hbN⟩
    · rw [hnv]
      exact own_keep hown fun g hg => by simp [Value.ownBlock] at hg
    · rw [hnb]
      exact o1.1
  · subst ha
    have hO2 : Only (fun r => r = 5) κ (upK κ w.heap.size 2) w W10 := hOw.tag (upK_old (Or.inr (Nat.le_refl _)))
    have o1 := own_only h.ob h.kb hO2 (by omega)
    have hgl : w.heap.size < w9.heap.size := (own_base hown (g := w.heap.size) rfl).2
    refine ⟨upK κ w.heap.size 2, bx, ⟨?_, fun g hg => ?_, ?_, o1.2, fun j hj => (h.blk j (by omega) hj).only hO2 (by omega) (by omega) (by omega), fun b hb => ?_, fun b hb => ?_, Nat.le_trans h.szN hOw.size⟩, hbN⟩
    · rw [hnv]
      exact own_keep hown fun g hg _ _ => hov g hg (by simp [Value.ownBlock] at hg; omega)
    · simp [Value.ownBlock] at hg
      simp [upK, hg]
    · rw [hnb]
      exact o1.1
    · unfold upK
      rw [if_neg (by omega)]
      exact h.fresh b (by omega)
    · rw [hO2.role b (by have := h.szN; omega)]
      exact h.lowN b hb
set_option maxRecDepth 8000 in
set_option maxHeartbeats 16000000 in
theorem own_any (f : Fn) (nv nb : Nat) (av ab : Option Addr) (cv cb : Nat) (w : World) (hnv : f.values.length = nv) (hnb : f.blocks.length = nb) (hv : SlOf w 1 RInt (.slice av nv cv) f.values) (hb : SlOf w 3 (RBlk w) (.slice ab nb cb) f.blocks) (hfit : FnFit f) :
    Calls Try.prog 12 #[.agg #[.slice av nv cv, .slice ab nb cb]] w fun e w' => ∃ a1 n1 c1 a2 n2 c2 κ bx, e = .returned (.agg #[.slice a1 n1 c1, .slice a2 n2 c2]) ∧ OwR w.heap.size κ w' f (.slice a1 n1 c1) (.slice a2 n2 c2) bx ∧ Below w.heap.size w w' := by
  obtain ⟨iI, hiI, ziI, siI, biI⟩ := info_parts infoMI
  obtain ⟨iO, hiO, ziO, siO, biO⟩ := info_parts infoMO
  obtain ⟨iR, hiR, ziR, siR, biR⟩ := info_parts infoMR
  obtain ⟨iX, hiX, ziX, siX, biX⟩ := info_parts infoMX
  obtain ⟨iE, hiE, ziE, siE, biE⟩ := info_parts infoME
  obtain ⟨iB, hiB, ziB, siB, biB⟩ := info_parts infoMB
  have HV : Hid (SlOf w 1 RInt (.slice av nv cv) f.values) := hv
  have HB : Hid (SlOf w 3 (RBlk w) (.slice ab nb cb) f.blocks) := hb
  have HF : Hid (FnFit f) := hfit
  have HNV : Hid (f.values.length = nv) := hnv
  have HNB : Hid (f.blocks.length = nb) := hnb
  have bnv : nv ≤ 1000 := by rw [← hnv]; exact hfit.nv
  have bnb : nb ≤ 1000 := by rw [← hnb]; exact hfit.nb
  obtain ⟨N, hN⟩ : ∃ N, w.heap.size = N := ⟨_, rfl⟩
  have H0 : Hid (OwS N w (.slice av nv cv) (.slice ab nb cb) f.blocks (upK (upK (fun _ => 0) N 1) (N + 1) 5) ((w.alloc (.cells #[.slice av nv cv, .slice ab nb cb] 32)).alloc (.cells #[.slice none 0 0, .slice none 0 0] 32)) 0 (.slice none 0 0) (fun _ => (.slice none 0 0, .slice none 0 0, .slice none 0 0))) := OwS.start w _ _ f.blocks N hN
  obtain ⟨W, hW⟩ : ∃ W, W = (w.alloc (.cells #[.slice av nv cv, .slice ab nb cb] 32)).alloc (.cells #[.slice none 0 0, .slice none 0 0] 32) := ⟨_, rfl⟩
  rw [← hW] at H0
  have HW : Hid (W = (w.alloc (.cells #[.slice av nv cv, .slice ab nb cb] 32)).alloc (.cells #[.slice none 0 0, .slice none 0 0] 32)) := hW
  have HN : Hid (w.heap.size = N) := hN
  have F1 : W.cell? ⟨N, 1, none⟩ = some (.slice ab nb cb) := H0.out.rF.cell (i := 1) (by omega)
  rw [hN]
  clear hW hN hv hb hfit hnv hnb
  go_enter Try.func12, Try.ntmps12
  go_upto_region 1 with fail
  rw [← HW.out, HN.out]
  clear HW
  go_wp2_with fail
  clear F1
  go_loopw [15, 3] (fun x vo wr => ∃ (k : Nat) (κr : Nat → Nat) (bx : Nat → Value × Value × Value) (ao : Option Addr) (co : Nat), k ≤ nb ∧ x = .int .i64 k ∧ vo = .slice ao k co ∧ Hid (OwS N w (.slice av nv cv) (.slice ab nb cb) f.blocks κr wr k (.slice ao k co) bx)) (fun x _ _ => nb - (intOf x).toNat)
  case atStart => exact ⟨0, _, _, none, 0, Nat.zero_le _, rfl, rfl, H0.out⟩
  case round =>
    clear H0
    obtain ⟨k, κr, bx, ao, co, hk, rfl, rfl, HK⟩ := hrel
    by_cases hlt : k < nb
    · have hkb : k < f.blocks.length := by rw [HNB.out]; exact hlt
      obtain ⟨b5, off5, cs, rfl, hcl5, ⟨vp, vi, ve, rfl, hp, hi, he0⟩, hc⟩ := HB.out.at k hkb
      obtain ⟨ae, ce, rfl, _⟩ := he0.out
      obtain ⟨ap, cp, rfl, _⟩ := hp.out
      obtain ⟨ai, ci, rfl, _⟩ := hi.out
      have hb0 := HK.out.bel
      have lw : ∀ q u, w.cell? ⟨b5, q, none⟩ = some u → wr.cell? ⟨b5, q, none⟩ = some u := fun q u h => (hb0.cell (p := ⟨b5, q, none⟩) (by rw [← HN.out]; exact block_lt h)).trans h
      have c0 := lw _ _ (hc 0 (by simp))
      have c1 := lw _ _ (hc 1 (by simp))
      have c2 := lw _ _ (hc 2 (by simp))
      simp at c0 c1 c2
      have HFK : Hid ((f.blocks[k].params.length ≤ 1000 ∧ f.blocks[k].instrs.length ≤ 1000 ∧ f.blocks[k].edges.length ≤ 1000) ∧ (∀ x ∈ f.blocks[k].instrs, x.operands.length ≤ 1000 ∧ x.spoils.length ≤ 1000) ∧ ∀ e ∈ f.blocks[k].edges, e.args.length ≤ 1000) := ⟨HF.out.blk _ (List.getElem_mem hkb), HF.out.ins _ (List.getElem_mem hkb), HF.out.edg _ (List.getElem_mem hkb)⟩
      obtain ⟨bk, hbk⟩ : ∃ bk, f.blocks[k] = bk := ⟨_, rfl⟩
      have HBK : Hid (f.blocks[k] = bk) := hbk
      rw [hbk] at HFK c0 c1 c2 hp hi he0
      have HPS : Hid (SlOf w 1 RInt (.slice ap bk.params.length cp) bk.params) := hp
      have HIS : Hid (SlOf w 3 (RIns w) (.slice ai bk.instrs.length ci) bk.instrs) := hi
      have HES : Hid (SlOf w 2 (REdg w) (.slice ae bk.edges.length ce) bk.edges) := he0
      obtain ⟨np, hnp⟩ : ∃ np, bk.params.length = np := ⟨_, rfl⟩
      obtain ⟨ni, hni⟩ : ∃ ni, bk.instrs.length = ni := ⟨_, rfl⟩
      obtain ⟨ne, hne⟩ : ∃ ne, bk.edges.length = ne := ⟨_, rfl⟩
      have HNP : Hid (bk.params.length = np) := hnp
      have HNI : Hid (bk.instrs.length = ni) := hni
      have HNE : Hid (bk.edges.length = ne) := hne
      rw [hnp] at c0 HPS
      rw [hni] at c1 HIS
      rw [hne] at c2 HES
      have bnp : np ≤ 1000 := by rw [← hnp]; exact HFK.out.1.1
      have bni : ni ≤ 1000 := by rw [← hni]; exact HFK.out.1.2.1
      have bne : ne ≤ 1000 := by rw [← hne]; exact HFK.out.1.2.2
      have hbx := HK.out.box bk (.slice ap np cp) (.slice ai ni ci) (.slice ae ne ce)
      obtain ⟨wx, hwx⟩ : ∃ wx, wx = wr.alloc (.cells #[.slice ap np cp, .slice ai ni ci, .slice ae ne ce] 45) := ⟨_, rfl⟩
      obtain ⟨Bb, hBb⟩ : ∃ Bb, wr.heap.size = Bb := ⟨_, rfl⟩
      rw [← hwx, hBb] at hbx
      have HX : Hid (OwS N w (.slice av nv cv) (.slice (some ⟨b5, off5, none⟩) nb cb) f.blocks (upK κr Bb 2) wx k (.slice ao k co) bx ∧ OwI N (upK κr Bb 2) wx k bk Bb (.slice ap np cp) (.slice ai ni ci) (.slice ae ne ce) 0 (.slice none 0 0) 0 (.slice none 0 0)) := hbx
      have HWX : Hid (wx = wr.alloc (.cells #[.slice ap np cp, .slice ai ni ci, .slice ae ne ce] 45)) := hwx
      have HBb : Hid (wr.heap.size = Bb) := hBb
      have y1 : wx.cell? ⟨Bb, 1, none⟩ = some (.slice ai ni ci) := HX.out.2.rB.cell (i := 1) (by omega)
      clear hc hcl5 hp hi he0 hb0 lw hbk hnp hni hne hbx hwx hBb HK
      go_upto_region 5 with fail
      rw [← HWX.out, HBb.out]
      clear HWX HBb c0 c1 c2
      go_wp2_with fail
      clear y1
      -- the instructions
      go_loopw [22, 6] (fun x vx w2 => ∃ (i : Nat) (κ2 : Nat → Nat) (ax : Option Addr) (cx : Nat), i ≤ ni ∧ x = .int .i64 i ∧ vx = .slice ax i cx ∧ Hid (OwS N w (.slice av nv cv) (.slice (some ⟨b5, off5, none⟩) nb cb) f.blocks κ2 w2 k (.slice ao k co) bx ∧ OwI N κ2 w2 k bk Bb (.slice ap np cp) (.slice ai ni ci) (.slice ae ne ce) i (.slice ax i cx) 0 (.slice none 0 0))) (fun x _ _ => ni - (intOf x).toNat)
      case atStart => exact ⟨0, _, none, 0, Nat.zero_le _, rfl, rfl, HX.out⟩
      case round =>
        clear HX
        obtain ⟨i, κ2, ax, cx, hi, rfl, rfl, HI⟩ := hrel
        by_cases hil : i < ni
        · have hib : i < bk.instrs.length := by rw [HNI.out]; exact hil
          obtain ⟨b7, off7, cs, rfl, hcl7, ⟨vo, vs, rfl, hvo, hvs⟩, hc⟩ := HIS.out.at i hib
          obtain ⟨aop, cop, rfl, _⟩ := hvo.out
          obtain ⟨asp, csp, rfl, _⟩ := hvs.out
          have hb0 := HI.out.1.bel
          have lw : ∀ q u, w.cell? ⟨b7, q, none⟩ = some u → wr.cell? ⟨b7, q, none⟩ = some u := fun q u h => (hb0.cell (p := ⟨b7, q, none⟩) (by rw [← HN.out]; exact block_lt h)).trans h
          have c0 := lw _ _ (hc 0 (by simp))
          have c1 := lw _ _ (hc 1 (by simp))
          have c2 := lw _ _ (hc 2 (by simp))
          simp at c0 c1 c2
          have hfx := HFK.out.2.1 bk.instrs[i] (List.getElem_mem hib)
          have HXI : Hid (bk.instrs[i]? = some bk.instrs[i]) := List.getElem?_eq_getElem hib
          generalize bk.instrs[i] = x at *
          obtain ⟨no, hno⟩ : ∃ no, x.operands.length = no := ⟨_, rfl⟩
          obtain ⟨ns, hns⟩ : ∃ ns, x.spoils.length = ns := ⟨_, rfl⟩
          rw [hno] at c1 hvo hfx
          rw [hns] at c2 hvs hfx
          obtain ⟨bno, bns⟩ := hfx
          -- its box
          obtain ⟨W8, hW8⟩ : ∃ W8, W8 = wr.alloc (.cells #[.int .i64 x.op, .slice aop no cop, .slice asp ns csp] 41) := ⟨_, rfl⟩
          obtain ⟨X8, hX8⟩ : ∃ X8, wr.heap.size = X8 := ⟨_, rfl⟩
          have r8 : W8.rowIs X8 41 3 (fun q => if q = 0 then .int .i64 x.op else if q = 1 then .slice aop no cop else .slice asp ns csp) := by
            rw [hW8, ← hX8]
            exact World.rowIs_alloc _ _ _ _ fun i hi => by
              simp at hi
              match i, hi with | 0, _ => rfl | 1, _ => rfl | 2, _ => rfl
          have hb8 : Below wr.heap.size wr W8 := by rw [hW8]; exact (Below.refl _ _).alloc (Nat.le_refl _) _
          have hbN : Below w.heap.size w W8 := by rw [HN.out]; exact hb0.trans (hb8.mono HI.out.1.szN)
          have HSP0 : Hid (SlOf w 2 RRg (.slice asp ns csp) x.spoils) := hvs
          have HSP8 : Hid (SlOf W8 2 RRg (.slice asp ns csp) x.spoils) := hvs.below hbN fun _ _ h => h
          obtain ⟨-, onl, onw⟩ := (hvo.below hbN fun _ _ h => h).news cO (fun _ => rfl) (by omega) (fun _ _ h => h)
          have HB8 : Hid (Below wr.heap.size wr W8) := hb8
          have HR8 : Hid (W8.rowIs X8 41 3 (fun q => if q = 0 then .int .i64 x.op else if q = 1 then .slice aop no cop else .slice asp ns csp)) := r8
          have HNO : Hid (x.operands.length = no ∧ x.spoils.length = ns) := ⟨hno, hns⟩
          have HX8 : Hid (wr.heap.size = X8) := hX8
          have HW8 : Hid (W8 = wr.alloc (.cells #[.int .i64 x.op, .slice aop no cop, .slice asp ns csp] 41)) := hW8
          have e1 : W8.cell? ⟨X8, 1, none⟩ = some (.slice aop no cop) := r8.cell (i := 1) (by omega)
          have z1 := r8.frozen 1
          have hNs : N ≤ W8.heap.size := Nat.le_trans HI.out.1.szN hb8.size
          have HONL : Hid ((x.operands.flatMap cO).length = no * 5) := onl
          have HONW : Hid (no = 0 ∨ ∃ ad, aop = some ad ∧ ∀ j u, (x.operands.flatMap cO)[j]? = some u → W8.cell? (ad.add j) = some u) := onw
          clear hc hcl7 hvo hvs hb0 lw hno hns r8 hb8 hbN onl onw hW8 hX8
          go_upto_region 9 with fail
          rw [← HW8.out, HX8.out]
          clear HW8 c0 c1 c2
          go_wp2_with (at_builtin; go_must (refine wpList_copy _ rfl _ _ 38 rfl N 47 iO _ 5 40 Try.underlying38 hiO ziO siO biO rfl (by omega) (by rfl) aop no cop (x.operands.flatMap cO) (by rfl) HONL.out HONW.out (one_cO _) (by unfold maxLen; omega) (by omega) ?c1 ?_))
          case c1 => exact hNs
          intro a9 c9 w9 hown9 hgrow9 hat9
          have hb9 := grown_below hgrow9
          have h5 : SlK κ2 w9 5 ROpr (.slice a9 no c9) x.operands := copy_slk cO (fun _ => rfl) (by omega) (fun _ => rfl) x.operands HNO.out.1 hown9 (by unfold longest; omega) hat9 fun b hb => HI.out.1.fresh b (Nat.le_trans HB8.out.size hb)
          have lX8 : X8 < W8.heap.size := HR8.out.lt
          obtain ⟨W9, hW9⟩ : ∃ W9, W9 = w9.setCell ⟨X8, 1, none⟩ (.slice a9 no c9) := ⟨_, rfl⟩
          have r9 : W9.rowIs X8 41 3 (fun q => if q = 0 then .int .i64 x.op else if q = 1 then .slice a9 no c9 else .slice asp ns csp) := by
            rw [hW9]
            exact ((HR8.out.of_block (hb9.block _ lX8)).set 1 _).congr fun q hq => by match q, hq with | 0, _ => rfl | 1, _ => rfl | 2, _ => rfl
          have hbw9 : Below wr.heap.size wr W9 := by
            rw [hW9]
            exact (HB8.out.trans (hb9.mono HB8.out.size)).setCell (by rw [HX8.out]; exact Nat.le_refl _) _
          have h59 : SlK κ2 W9 5 ROpr (.slice a9 no c9) x.operands := by
            rw [hW9]
            exact h5.set X8 1 _ ((copy_far x.operands HNO.out.1 hat9).imp id fun h g hg => by have := h g hg; omega)
          have e1' : w9.cell? ⟨X8, 1, none⟩ = some (.slice aop no cop) := (hb9.cell (p := ⟨X8, 1, none⟩) lX8).trans e1
          have z1' : w9.frozen? ⟨X8, 1, none⟩ = false := (hb9.frozen (p := ⟨X8, 1, none⟩) lX8).trans z1
          have HFAR : Hid (x.operands = [] ∨ ∀ g, (Value.slice a9 no c9).ownBlock = some g → X8 < g) := (copy_far x.operands HNO.out.1 hat9).imp id fun h g hg => by have := h g hg; omega
          have H59 : Hid (SlK κ2 W9 5 ROpr (.slice a9 no c9) x.operands) := h59
          have HB9 : Hid (Below wr.heap.size wr W9) := hbw9
          have HR9 : Hid (W9.rowIs X8 41 3 (fun q => if q = 0 then .int .i64 x.op else if q = 1 then .slice a9 no c9 else .slice asp ns csp)) := r9
          have HW9 : Hid (W9 = w9.setCell ⟨X8, 1, none⟩ (.slice a9 no c9)) := hW9
          have hb89 : Below X8 W8 W9 := by
            rw [hW9]
            exact ((hb9.mono (Nat.le_of_lt lX8)).setCell (p := ⟨X8, 1, none⟩) (Nat.le_refl _) _)
          have hvs9 : SlOf W9 2 RRg (.slice asp ns csp) x.spoils := by
            have hbN : Below w.heap.size w W9 := by rw [HN.out]; exact HI.out.1.bel.trans (hbw9.mono HI.out.1.szN)
            exact HSP0.out.below hbN fun _ _ h => h
          obtain ⟨-, snl, snw⟩ := hvs9.news cR (fun _ => rfl) (by omega) (fun _ _ h => h)
          have HSNL : Hid ((x.spoils.flatMap cR).length = ns * 2) := snl
          have HSNW : Hid (ns = 0 ∨ ∃ ad, asp = some ad ∧ ∀ j u, (x.spoils.flatMap cR)[j]? = some u → W9.cell? (ad.add j) = some u) := snw
          have e2 : W9.cell? ⟨X8, 2, none⟩ = some (.slice asp ns csp) := r9.cell (i := 2) (by omega)
          have z2 := r9.frozen 2
          have hNs9 : N ≤ W9.heap.size := Nat.le_trans HI.out.1.szN hbw9.size
          clear hown9 hgrow9 hat9 hb9 h5 lX8 hW9 r9 hbw9 h59 hb89 hvs9 snl snw HR8 HB8 HSP8 HONL HONW e1 z1 hNs
          go_upto_region 10 with fail
          rw [← HW9.out]
          clear HW9 e1' z1'
          go_wp2_with (at_builtin; go_must (refine wpList_copy _ rfl _ _ 39 rfl N 98 iR _ 2 16 Try.underlying39 hiR ziR siR biR rfl (by omega) (by rfl) asp ns csp (x.spoils.flatMap cR) (by rfl) HSNL.out HSNW.out (one_cR _) (by unfold maxLen; omega) (by omega) ?c2 ?_))
          case c2 => exact hNs9
          intro a10 c10 w10 hown10 hgrow10 hat10
          have hb10 := grown_below hgrow10
          have h2s : SlK κ2 w10 2 RRg (.slice a10 ns c10) x.spoils := copy_slk cR (fun _ => rfl) (by omega) (fun _ => rfl) x.spoils HNO.out.2 hown10 (by unfold longest; omega) hat10 fun b hb => HI.out.1.fresh b (Nat.le_trans HB9.out.size hb)
          have lX9 : X8 < W9.heap.size := HR9.out.lt
          obtain ⟨W10, hW10⟩ : ∃ W10, W10 = w10.setCell ⟨X8, 2, none⟩ (.slice a10 ns c10) := ⟨_, rfl⟩
          have r10 : W10.rowIs X8 41 3 (fun q => if q = 0 then .int .i64 x.op else if q = 1 then .slice a9 no c9 else .slice a10 ns c10) := by
            rw [hW10]
            exact ((HR9.out.of_block (hb10.block _ lX9)).set 2 _).congr fun q hq => by match q, hq with | 0, _ => rfl | 1, _ => rfl | 2, _ => rfl
          have hbw10 : Below wr.heap.size wr W10 := by
            rw [hW10]
            exact (HB9.out.trans (hb10.mono HB9.out.size)).setCell (by rw [HX8.out]; exact Nat.le_refl _) _
          have h2s' : SlK κ2 W10 2 RRg (.slice a10 ns c10) x.spoils := by
            rw [hW10]
            exact h2s.set X8 2 _ ((copy_far x.spoils HNO.out.2 hat10).imp id fun h g hg => by have := h g hg; omega)
          have h5' : SlK κ2 W10 5 ROpr (.slice a9 no c9) x.operands := by
            rw [hW10]
            refine (H59.out.below hb10).set X8 2 _ ?_
            exact HFAR.out.imp id fun h g hg => by have := h g hg; have := HX8.out; omega
          have e2' : w10.cell? ⟨X8, 2, none⟩ = some (.slice asp ns csp) := (hb10.cell (p := ⟨X8, 2, none⟩) lX9).trans e2
          have z2' : w10.frozen? ⟨X8, 2, none⟩ = false := (hb10.frozen (p := ⟨X8, 2, none⟩) lX9).trans z2
          have k0 : W10.cell? ⟨X8, 0, none⟩ = some (.int .i64 x.op) := r10.cell (i := 0) (by omega)
          have k1 : W10.cell? ⟨X8, 1, none⟩ = some (.slice a9 no c9) := r10.cell (i := 1) (by omega)
          have k2 : W10.cell? ⟨X8, 2, none⟩ = some (.slice a10 ns c10) := r10.cell (i := 2) (by omega)
          obtain ⟨L, l1, l2, l3⟩ := HI.out.2.xs
          have HL : Hid (L.map (·.1) = bk.instrs.take i ∧ ∀ p ∈ L, SlK κ2 wr 5 ROpr p.2.1 p.1.operands ∧ SlK κ2 wr 2 RRg p.2.2 p.1.spoils) := ⟨l1, l3⟩
          have l2' : W10.ownsRow N 41 3 (.slice ax i cx) i (L.flatMap cX) := own_keep l2 fun g _ _ hg => hbw10.block g hg
          have oA := l2'.alloc (.cells #[.int .i64 x.op, .slice a9 no c9, .slice a10 ns c10] 41)
          have HB11 : Hid (Below wr.heap.size wr (W10.alloc (.cells #[.int .i64 x.op, .slice a9 no c9, .slice a10 ns c10] 41)) ∧ SlK κ2 (W10.alloc (.cells #[.int .i64 x.op, .slice a9 no c9, .slice a10 ns c10] 41)) 5 ROpr (.slice a9 no c9) x.operands ∧ SlK κ2 (W10.alloc (.cells #[.int .i64 x.op, .slice a9 no c9, .slice a10 ns c10] 41)) 2 RRg (.slice a10 ns c10) x.spoils) := ⟨hbw10.alloc hbw10.size _, h5'.below ((Below.refl _ _).alloc (Nat.le_refl _) _), h2s'.below ((Below.refl _ _).alloc (Nat.le_refl _) _)⟩
          have HW10 : Hid (W10 = w10.setCell ⟨X8, 2, none⟩ (.slice a10 ns c10)) := hW10
          have hNs10 : N ≤ W10.heap.size + 1 := by have := HI.out.1.szN; have := hbw10.size; omega
          clear hown10 hgrow10 hat10 hb10 h2s lX9 hW10 r10 hbw10 h2s' h5' l1 l2 l3 l2' HR9 HB9 H59 HSNL HSNW e2 z2 hNs9 HFAR
          go_upto_region 11 with fail
          rw [← HW10.out]
          clear HW10 e2' z2'
          go_wp2_with (at_builtin; go_must (refine wpList_append_lies _ rfl _ _ 42 rfl N 41 iX _ 3 56 Try.underlying42 hiX ziX siX biX rfl (by omega) (.slice ax i cx) i _ (by rfl) oA ⟨W10.heap.size, 0, none⟩ 1 1 [.int .i64 x.op, .slice a9 no c9, .slice a10 ns c10] (by rfl) (by rfl) ?d1 ?d2 (by omega) ?d3 ?d4 ?d5 (W10.heap.size + 1) ?d6 ?_))
          rotate_left
          any_goals (first | (exact newsG rfl) | rfl | (intro u hu; simp at hu; rcases hu with rfl | rfl | rfl <;> rfl) | (unfold maxLen; omega) | omega | (simp; omega) | (simp; rfl) | (simp; done))
          intro g cap wb hown hgrow hat hgl
          have hP := OwI.pushX HI.out.1 HI.out.2 HB11.out.1 hgrow L HL.out.1 HL.out.2 x (.slice a9 no c9) (.slice a10 ns c10) HXI.out hown (by simpa using hat) HB11.out.2.1 HB11.out.2.2
          have HP : Hid (OwS N w (.slice av nv cv) (.slice (some ⟨b5, off5, none⟩) nb cb) f.blocks (upK κ2 g (6 + 2 * k)) wb k (.slice ao k co) bx ∧ OwI N (upK κ2 g (6 + 2 * k)) wb k bk Bb (.slice ap np cp) (.slice (some ⟨b7, off7, none⟩) ni ci) (.slice ae ne ce) (i + 1) (.slice (some ⟨g, 0, none⟩) (i + 1) cap) 0 (.slice none 0 0)) := hP
          clear hP hown hgrow hat hgl oA HL HB11 HI k0 k1 k2
          go_wp2
          go_roundw
          case rel => exact ⟨i + 1, _, some ⟨g, 0, none⟩, cap, by omega, by go_num, rfl, HP.out⟩
          case measure => simp [intOf]; omega
        · obtain rfl : i = ni := by omega
          have HI1 := HI
          have y2 : wr.cell? ⟨Bb, 2, none⟩ = some (.slice ae ne ce) := HI1.out.2.rB.cell (i := 2) (by omega)
          clear HI hil
          go_wp2_with fail
          clear y2
          obtain ⟨wo, rfl⟩ : ∃ wo : World, wo = wr := ⟨_, rfl⟩
          go_loopw [42, 9] (fun x vy w2 => ∃ (j : Nat) (κ3 : Nat → Nat) (ay : Option Addr) (cy : Nat), j ≤ ne ∧ x = .int .i64 j ∧ vy = .slice ay j cy ∧ Hid (OwS N w (.slice av nv cv) (.slice (some ⟨b5, off5, none⟩) nb cb) f.blocks κ3 w2 k (.slice ao k co) bx ∧ OwI N κ3 w2 k bk Bb (.slice ap np cp) (.slice ai i ci) (.slice ae ne ce) i (.slice ax i cx) j (.slice ay j cy))) (fun x _ _ => ne - (intOf x).toNat)
          case atStart => exact ⟨0, _, none, 0, Nat.zero_le _, rfl, rfl, HI1.out⟩
          case round =>
            clear HI1
            obtain ⟨j, κ3, ay, cy, hj, rfl, rfl, HI⟩ := hrel
            by_cases hjl : j < ne
            · have hjb : j < bk.edges.length := by rw [HNE.out]; exact hjl
              obtain ⟨b7, off7, cs, rfl, hcl7, ⟨va, rfl, hva⟩, hc⟩ := HES.out.at j hjb
              obtain ⟨aa, ca, rfl, _⟩ := hva.out
              have hb0 := HI.out.1.bel
              have lw : ∀ q u, w.cell? ⟨b7, q, none⟩ = some u → wr.cell? ⟨b7, q, none⟩ = some u := fun q u h => (hb0.cell (p := ⟨b7, q, none⟩) (by rw [← HN.out]; exact block_lt h)).trans h
              have c0 := lw _ _ (hc 0 (by simp))
              have c1 := lw _ _ (hc 1 (by simp))
              simp at c0 c1
              have hfx := HFK.out.2.2 bk.edges[j] (List.getElem_mem hjb)
              have HXI : Hid (bk.edges[j]? = some bk.edges[j]) := List.getElem?_eq_getElem hjb
              generalize bk.edges[j] = x at *
              obtain ⟨na, hna⟩ : ∃ na, x.args.length = na := ⟨_, rfl⟩
              rw [hna] at c1 hva hfx
              have bna := hfx
              obtain ⟨W8, hW8⟩ : ∃ W8, W8 = wr.alloc (.cells #[.int .i64 x.block, .slice aa na ca] 54) := ⟨_, rfl⟩
              obtain ⟨X8, hX8⟩ : ∃ X8, wr.heap.size = X8 := ⟨_, rfl⟩
              have r8 : W8.rowIs X8 54 2 (fun q => if q = 0 then .int .i64 x.block else .slice aa na ca) := by
                rw [hW8, ← hX8]
                exact World.rowIs_alloc _ _ _ _ fun i hi => by
                  simp at hi
                  match i, hi with | 0, _ => rfl | 1, _ => rfl
              have hb8 : Below wr.heap.size wr W8 := by rw [hW8]; exact (Below.refl _ _).alloc (Nat.le_refl _) _
              have hbN : Below w.heap.size w W8 := by rw [HN.out]; exact hb0.trans (hb8.mono HI.out.1.szN)
              obtain ⟨-, onl, onw⟩ := (hva.below hbN fun _ _ h => h).news (k := 1) cI (fun _ => rfl) (by decide) (fun _ _ h => h)
              have HB8 : Hid (Below wr.heap.size wr W8) := hb8
              have HR8 : Hid (W8.rowIs X8 54 2 (fun q => if q = 0 then .int .i64 x.block else .slice aa na ca)) := r8
              have HNO : Hid (x.args.length = na) := hna
              have HX8 : Hid (wr.heap.size = X8) := hX8
              have HW8 : Hid (W8 = wr.alloc (.cells #[.int .i64 x.block, .slice aa na ca] 54)) := hW8
              have e1 : W8.cell? ⟨X8, 1, none⟩ = some (.slice aa na ca) := r8.cell (i := 1) (by omega)
              have z1 := r8.frozen 1
              have hNs : N ≤ W8.heap.size := Nat.le_trans HI.out.1.szN hb8.size
              have HONL : Hid ((x.args.flatMap cI).length = na * 1) := onl
              have HONW : Hid (na = 0 ∨ ∃ ad, aa = some ad ∧ ∀ j u, (x.args.flatMap cI)[j]? = some u → W8.cell? (ad.add j) = some u) := onw
              clear hc hcl7 hva hb0 lw hna hfx r8 hb8 hbN onl onw hW8 hX8
              go_upto_region 17 with fail
              rw [← HW8.out, HX8.out]
              clear HW8 c0 c1
              go_wp2_with (at_builtin; go_must (refine wpList_copy _ rfl _ _ 29 rfl N 3 iI _ 1 8 Try.underlying29 hiI ziI siI biI rfl (by omega) (by rfl) aa na ca (x.args.flatMap cI) (by rfl) HONL.out HONW.out (one_cI _) (by unfold maxLen; omega) (by omega) ?c3 ?_))
              case c3 => exact hNs
              intro a9 c9 w9 hown9 hgrow9 hat9
              have hb9 := grown_below hgrow9
              have h1 : SlK κ3 w9 1 RInt (.slice a9 na c9) x.args := copy_slk (k := 1) cI (fun _ => rfl) (by decide) (fun _ => rfl) x.args HNO.out hown9 (by unfold longest; omega) hat9 fun b hb => HI.out.1.fresh b (Nat.le_trans HB8.out.size hb)
              have lX8 : X8 < W8.heap.size := HR8.out.lt
              obtain ⟨W10, hW10⟩ : ∃ W10, W10 = w9.setCell ⟨X8, 1, none⟩ (.slice a9 na c9) := ⟨_, rfl⟩
              have r10 : W10.rowIs X8 54 2 (fun q => if q = 0 then .int .i64 x.block else .slice a9 na c9) := by
                rw [hW10]
                exact ((HR8.out.of_block (hb9.block _ lX8)).set 1 _).congr fun q hq => by match q, hq with | 0, _ => rfl | 1, _ => rfl
              have hbw10 : Below wr.heap.size wr W10 := by
                rw [hW10]
                exact (HB8.out.trans (hb9.mono HB8.out.size)).setCell (by rw [HX8.out]; exact Nat.le_refl _) _
              have h1' : SlK κ3 W10 1 RInt (.slice a9 na c9) x.args := by
                rw [hW10]
                exact h1.set X8 1 _ ((copy_far x.args HNO.out hat9).imp id fun h g hg => by have := h g hg; omega)
              have e1' : w9.cell? ⟨X8, 1, none⟩ = some (.slice aa na ca) := (hb9.cell (p := ⟨X8, 1, none⟩) lX8).trans e1
              have z1' : w9.frozen? ⟨X8, 1, none⟩ = false := (hb9.frozen (p := ⟨X8, 1, none⟩) lX8).trans z1
              have k0 : W10.cell? ⟨X8, 0, none⟩ = some (.int .i64 x.block) := r10.cell (i := 0) (by omega)
              have k1 : W10.cell? ⟨X8, 1, none⟩ = some (.slice a9 na c9) := r10.cell (i := 1) (by omega)
              obtain ⟨M, l1, l2, l3⟩ := HI.out.2.es
              have HL : Hid (M.map (·.1) = bk.edges.take j ∧ ∀ p ∈ M, SlK κ3 wr 1 RInt p.2 p.1.args) := ⟨l1, l3⟩
              have l2' : W10.ownsRow N 54 2 (.slice ay j cy) j (M.flatMap cE) := own_keep l2 fun g _ _ hg => hbw10.block g hg
              have oA := l2'.alloc (.cells #[.int .i64 x.block, .slice a9 na c9] 54)
              have HB11 : Hid (Below wr.heap.size wr (W10.alloc (.cells #[.int .i64 x.block, .slice a9 na c9] 54)) ∧ SlK κ3 (W10.alloc (.cells #[.int .i64 x.block, .slice a9 na c9] 54)) 1 RInt (.slice a9 na c9) x.args) := ⟨hbw10.alloc hbw10.size _, h1'.below ((Below.refl _ _).alloc (Nat.le_refl _) _)⟩
              have HW10 : Hid (W10 = w9.setCell ⟨X8, 1, none⟩ (.slice a9 na c9)) := hW10
              have hNs10 : N ≤ W10.heap.size + 1 := by have := HI.out.1.szN; have := hbw10.size; omega
              clear hown9 hgrow9 hat9 hb9 h1 lX8 hW10 r10 hbw10 h1' l1 l2 l3 l2' HR8 HB8 HONL HONW e1 z1 hNs
              go_upto_region 18 with fail
              rw [← HW10.out]
              clear HW10 e1' z1'
              go_wp2_with (at_builtin; go_must (refine wpList_append_lies _ rfl _ _ 43 rfl N 54 iE _ 2 32 Try.underlying43 hiE ziE siE biE rfl (by omega) (.slice ay j cy) j _ (by rfl) oA ⟨W10.heap.size, 0, none⟩ 1 1 [.int .i64 x.block, .slice a9 na c9] (by rfl) (by rfl) ?f1 ?f2 (by omega) ?f3 ?f4 ?f5 (W10.heap.size + 1) ?f6 ?_))
              rotate_left
              any_goals (first | (exact newsG rfl) | rfl | (intro u hu; simp at hu; rcases hu with rfl | rfl <;> rfl) | (unfold maxLen; omega) | omega | (simp; omega) | (simp; rfl) | (simp; done))
              intro g cap wb hown hgrow hat hgl
              have hP := OwI.pushE HI.out.1 HI.out.2 HB11.out.1 hgrow M HL.out.1 HL.out.2 x (.slice a9 na c9) HXI.out hown (by simpa using hat) HB11.out.2
              have HP : Hid (OwS N w (.slice av nv cv) (.slice (some ⟨b5, off5, none⟩) nb cb) f.blocks (upK κ3 g (7 + 2 * k)) wb k (.slice ao k co) bx ∧ OwI N (upK κ3 g (7 + 2 * k)) wb k bk Bb (.slice ap np cp) (.slice ai i ci) (.slice (some ⟨b7, off7, none⟩) ne ce) i (.slice ax i cx) (j + 1) (.slice (some ⟨g, 0, none⟩) (j + 1) cap)) := hP
              clear hP hown hgrow hat hgl oA HL HB11 HI k0 k1
              go_wp2
              go_roundw
              case rel => exact ⟨j + 1, _, some ⟨g, 0, none⟩, cap, by omega, by go_num, rfl, HP.out⟩
              case measure => simp [intOf]; omega
            · -- the block is laid
              obtain rfl : j = ne := by omega
              have y0 : wr.cell? ⟨Bb, 0, none⟩ = some (.slice ap np cp) := HI.out.2.rB.cell (i := 0) (by omega)
              have hbN : Below w.heap.size w wr := by rw [HN.out]; exact HI.out.1.bel
              obtain ⟨-, onl, onw⟩ := (HPS.out.below hbN fun _ _ h => h).news (k := 1) cI (fun _ => rfl) (by decide) (fun _ _ h => h)
              have HONL : Hid ((bk.params.flatMap cI).length = np * 1) := onl
              have HONW : Hid (np = 0 ∨ ∃ ad, ap = some ad ∧ ∀ j u, (bk.params.flatMap cI)[j]? = some u → wr.cell? (ad.add j) = some u) := onw
              have hNs : N ≤ wr.heap.size := HI.out.1.szN
              clear hjl hbN onl onw
              go_upto_region 20 with fail
              go_wp2_with (at_builtin; go_must (refine wpList_copy _ rfl _ _ 29 rfl N 3 iI _ 1 8 Try.underlying29 hiI ziI siI biI rfl (by omega) (by rfl) ap np cp (bk.params.flatMap cI) (by rfl) HONL.out HONW.out (one_cI _) (by unfold maxLen; omega) (by omega) ?c4 ?_))
              case c4 => exact hNs
              intro a9 c9 w9 hown9 hgrow9 hat9
              have hb9 := grown_below hgrow9
              have h1 : SlK κ3 w9 1 RInt (.slice a9 np c9) bk.params := copy_slk (k := 1) cI (fun _ => rfl) (by decide) (fun _ => rfl) bk.params HNP.out hown9 (by unfold longest; omega) hat9 HI.out.1.fresh
              have l2' : w9.ownsRow N 45 3 (.slice ao k co) k ((List.range k).flatMap fun j => c3 (bx j)) := own_keep HI.out.1.ob fun g _ _ hg => hb9.block g hg
              have oA := l2'.alloc (.cells #[.slice a9 np c9, .slice ax i cx, .slice ay j cy] 45)
              have HB11 : Hid (Below wr.heap.size wr (w9.alloc (.cells #[.slice a9 np c9, .slice ax i cx, .slice ay j cy] 45)) ∧ SlK κ3 (w9.alloc (.cells #[.slice a9 np c9, .slice ax i cx, .slice ay j cy] 45)) 1 RInt (.slice a9 np c9) bk.params) := ⟨hb9.alloc hb9.size _, h1.below ((Below.refl _ _).alloc (Nat.le_refl _) _)⟩
              have hNs10 : N ≤ w9.heap.size + 1 := by have := hb9.size; omega
              clear hown9 hgrow9 hat9 hb9 h1 l2' HONL HONW hNs y0
              go_wp2_with (at_builtin; go_must (refine wpList_append_lies _ rfl _ _ 30 rfl N 45 iB _ 3 72 Try.underlying30 hiB ziB siB biB rfl (by omega) (.slice ao k co) k _ (by rfl) oA ⟨w9.heap.size, 0, none⟩ 1 1 [.slice a9 np c9, .slice ax i cx, .slice ay j cy] (by rfl) (by rfl) ?g1 ?g2 (by omega) ?g3 ?g4 ?g5 (w9.heap.size + 1) ?g6 ?_))
              rotate_left
              any_goals (first | (exact newsG rfl) | rfl | (intro u hu; simp at hu; rcases hu with rfl | rfl | rfl <;> rfl) | (unfold maxLen; omega) | omega | (simp; omega) | (simp; rfl) | (simp; done))
              intro g cap wb hown hgrow hat hgl
              have hkb : k < f.blocks.length := by rw [HNB.out]; exact hlt
              have hP := OwS.pushB HI.out.1 hkb (vp := .slice ap np cp) (vi := .slice ai i ci) (ve := .slice ae j ce) (Bb := Bb) (vx := .slice ax i cx) (vy := .slice ay j cy) (by rw [HBK.out, HNI.out, HNE.out]; exact HI.out.2) HB11.out.1 hgrow (.slice a9 np c9) hown (by simpa using hat) (by rw [HBK.out]; exact HB11.out.2)
              have HP : Hid (∃ κ' bx', OwS N w (.slice av nv cv) (.slice (some ⟨b5, off5, none⟩) nb cb) f.blocks κ' wb (k + 1) (.slice (some ⟨g, 0, none⟩) (k + 1) cap) bx') := ⟨_, _, hP⟩
              clear hP hown hgrow hat hgl oA HB11 HI hkb
              go_wp2
              obtain ⟨κ', bx', hP⟩ := HP.out
              go_roundw
              case rel => exact ⟨k + 1, κ', bx', some ⟨g, 0, none⟩, cap, by omega, by go_num, rfl, hP⟩
              case measure => simp [intOf]; omega
    · obtain rfl : k = nb := by omega
      have y0 : wr.cell? ⟨N, 0, none⟩ = some (.slice av nv cv) := HK.out.rF.cell (i := 0) (by omega)
      have hbN : Below w.heap.size w wr := by rw [HN.out]; exact HK.out.bel
      obtain ⟨-, onl, onw⟩ := (HV.out.below hbN fun _ _ h => h).news (k := 1) cI (fun _ => rfl) (by decide) (fun _ _ h => h)
      have HONL : Hid ((f.values.flatMap cI).length = nv * 1) := onl
      have HONW : Hid (nv = 0 ∨ ∃ ad, av = some ad ∧ ∀ j u, (f.values.flatMap cI)[j]? = some u → wr.cell? (ad.add j) = some u) := onw
      have hNs : N ≤ wr.heap.size := HK.out.szN
      clear hlt hbN onl onw
      go_upto_region 22 with fail
      go_wp2_with (at_builtin; go_must (refine wpList_copy _ rfl _ _ 29 rfl N 3 iI _ 1 8 Try.underlying29 hiI ziI siI biI rfl (by omega) (by rfl) av nv cv (f.values.flatMap cI) (by rfl) HONL.out HONW.out (one_cI _) (by unfold maxLen; omega) (by omega) ?c5 ?_))
      case c5 => exact hNs
      intro a9 c9 w9 hown9 hgrow9 hat9
      have hb9 := grown_below hgrow9
      have hlR := HK.out.rR.lt
      have R0 : w9.cell? ⟨N + 1, 0, none⟩ = some (.slice none 0 0) := (hb9.cell (p := ⟨N + 1, 0, none⟩) hlR).trans (HK.out.rR.cell (i := 0) (by omega))
      have R1 : w9.cell? ⟨N + 1, 1, none⟩ = some (.slice none 0 0) := (hb9.cell (p := ⟨N + 1, 1, none⟩) hlR).trans (HK.out.rR.cell (i := 1) (by omega))
      have Z0 : w9.frozen? ⟨N + 1, 0, none⟩ = false := (hb9.frozen (p := ⟨N + 1, 0, none⟩) hlR).trans (HK.out.rR.frozen 0)
      have Z1 : w9.frozen? ⟨N + 1, 1, none⟩ = false := (hb9.frozen (p := ⟨N + 1, 1, none⟩) hlR).trans (HK.out.rR.frozen 1)
      obtain ⟨W10, hW10⟩ : ∃ W10, W10 = (w9.setCell ⟨N + 1, 0, none⟩ (.slice a9 nv c9)).setCell ⟨N + 1, 1, none⟩ (.slice ao k co) := ⟨_, rfl⟩
      have rr : W10.rowIs (N + 1) 32 2 (fun q => if q = 0 then .slice a9 nv c9 else .slice ao k co) := by
        rw [hW10]
        exact (((HK.out.rR.of_block (hb9.block _ hlR)).set 0 _).set 1 _).congr fun q hq => by match q, hq with | 0, _ => rfl | 1, _ => rfl
      have HE : Hid (∃ κ bx, OwR N κ W10 f (.slice a9 nv c9) (.slice ao k co) bx ∧ Below N w W10) := own_end HK.out HNV.out HNB.out hb9 hown9 hat9 hW10
      have q0 := rr.cell (i := 0) (by omega)
      have q1 := rr.cell (i := 1) (by omega)
      simp only [if_true, Nat.one_ne_zero, if_false] at q0 q1
      have HW10 : Hid (W10 = (w9.setCell ⟨N + 1, 0, none⟩ (.slice a9 nv c9)).setCell ⟨N + 1, 1, none⟩ (.slice ao k co)) := hW10
      clear hown9 hgrow9 hat9 hb9 hlR hW10 rr HONL HONW hNs y0 HK
      go_wp2_with fail
      rw [← HW10.out]
      obtain ⟨κe, bxe, hE1, hE2⟩ := HE.out
      refine bodyPost_ret (v := .agg #[.slice a9 nv c9, .slice ao k co]) ?_ rfl ⟨_, _, _, _, _, _, κe, bxe, rfl, hE1, hE2⟩
      simp [results, Try.results12, go_sem, q0, q1]
end Go.Proofs.Ytanhfkpphdbaaaa
