/-
  The contract of 'through': one block, instruction by instruction.
-/
import Derived.Test.YtmkloakahefjiaaR4
namespace Go.Proofs.Ytmkloakahefjiaa
open Go.RowKit
set_option linter.unusedVariables false

/-- What 'through' leaves behind. -/
def ThEnd (wb : World) (B X Y : Nat) (vv vb : Value) (nv : Nat) (seed : Int) (bs : List Blk) (steps t : Nat) (r : Int) (w' : World) : Prop :=
  ∃ left now ve es, WkS wb B X Y vv vb nv seed left now ve es w' ∧
    ((r = -1 ∧ es.map (·.1) = (runM bs nv seed steps).evs) ∨ ∃ b' t' : Nat, r = (b' : Int) ∧ b' < bs.length ∧ t < t' ∧ t' ≤ steps ∧ left = ((steps - t' : Nat) : Int) ∧ runM bs nv seed t' = ⟨.come b', now, es.map (·.1)⟩)
theorem evs_at (bs : List Blk) (nv : Nat) (seed : Int) (steps t : Nat) (h : t ≤ steps) (hs : (runM bs nv seed t).wh = .stop) : (runM bs nv seed steps).evs = (runM bs nv seed t).evs := by
  have := run_stop bs nv seed t hs (steps - t)
  rw [show t + (steps - t) = steps by omega] at this
  rw [this]
theorem infoEv : (Try.prog.info? 53).map (fun i => (i.zero, i.size, i.bytes)) = some (some (.agg #[.int .i64 0, .int .i64 0, .slice none 0 0, .int .i64 0]), 4, 48) := by kernel_rfl
theorem sl_own {α : Type} {w : World} {k : Nat} {R : List Value → α → Prop} {v : Value} {l : List α} (hk : 0 < k) (h : SlOf w k R v l) : l = [] ∨ ∀ g, v.ownBlock = some g → g < w.heap.size := by
  obtain ⟨a', c', hv, hl', h'⟩ := h
  rcases h' with e | ⟨bq, offq, ha, h'⟩
  · exact Or.inl e
  · by_cases e : l = []
    · exact Or.inl e
    · right
      intro g hg
      obtain ⟨cs, h1, h2, h3⟩ := h' 0 (List.length_pos_iff.2 e)
      have hlt := block_lt (h3 0 (by omega))
      rw [hv, ha] at hg
      simp [Value.ownBlock] at hg
      omega
/-- Where a block lies. -/
theorem blk_atR {w : World} {ab : Option Addr} {nb cb : Nat} {bs : List Blk} (h : SlOf w 3 (RBlk w) (.slice ab nb cb) bs) (t : Nat) (ht : t < bs.length) : ∃ b off ap cp ai ci ae ce, ab = some ⟨b, off, none⟩ ∧ b < w.heap.size ∧ w.cell? ⟨b, off + t * 3, none⟩ = some (.slice ap bs[t].params.length cp) ∧ w.cell? ⟨b, off + t * 3 + 1, none⟩ = some (.slice ai bs[t].instrs.length ci) ∧ w.cell? ⟨b, off + t * 3 + 2, none⟩ = some (.slice ae bs[t].edges.length ce) ∧ SlOf w 3 (RIns w) (.slice ai bs[t].instrs.length ci) bs[t].instrs ∧ SlOf w 2 (REdg w) (.slice ae bs[t].edges.length ce) bs[t].edges := by
  obtain ⟨b, off, cs, h1, h2, ⟨vp, vi, ve, rfl, hp, hi, he⟩, h4⟩ := h.at t ht
  obtain ⟨ap, cp, rfl, _⟩ := hp.out
  obtain ⟨ai, ci, rfl, _⟩ := hi.out
  obtain ⟨ae, ce, rfl, _⟩ := he.out
  have c0 := h4 0 (by simp)
  have c1 := h4 1 (by simp)
  have c2 := h4 2 (by simp)
  simp at c0 c1 c2
  exact ⟨b, off, ap, cp, ai, ci, ae, ce, h1, block_lt c0, c0, c1, c2, hi, he⟩
theorem ins_at {w : World} {ai : Option Addr} {ni ci : Nat} {xs : List Ins} (h : SlOf w 3 (RIns w) (.slice ai ni ci) xs) (k : Nat) (hk : k < xs.length) : ∃ b off ao co asp csp, ai = some ⟨b, off, none⟩ ∧ b < w.heap.size ∧ w.cell? ⟨b, off + k * 3, none⟩ = some (.int .i64 xs[k].op) ∧ w.cell? ⟨b, off + k * 3 + 1, none⟩ = some (.slice ao xs[k].operands.length co) ∧ w.cell? ⟨b, off + k * 3 + 2, none⟩ = some (.slice asp xs[k].spoils.length csp) ∧ SlOf w 5 ROpr (.slice ao xs[k].operands.length co) xs[k].operands := by
  obtain ⟨b, off, cs, h1, h2, ⟨vo, vs, rfl, ho, hs⟩, h4⟩ := h.at k hk
  obtain ⟨ao, co, rfl, _⟩ := ho.out
  obtain ⟨asp, csp, rfl, _⟩ := hs.out
  have c0 := h4 0 (by simp)
  have c1 := h4 1 (by simp)
  have c2 := h4 2 (by simp)
  simp at c0 c1 c2
  exact ⟨b, off, ao, co, asp, csp, h1, block_lt c0, c0, c1, c2, ho⟩
theorem edg_at {w : World} {ae : Option Addr} {ne ce : Nat} {xs : List Edg} (h : SlOf w 2 (REdg w) (.slice ae ne ce) xs) (k : Nat) (hk : k < xs.length) : ∃ b off aa ca, ae = some ⟨b, off, none⟩ ∧ b < w.heap.size ∧ w.cell? ⟨b, off + k * 2, none⟩ = some (.int .i64 xs[k].block) ∧ w.cell? ⟨b, off + k * 2 + 1, none⟩ = some (.slice aa xs[k].args.length ca) ∧ SlOf w 1 RInt (.slice aa xs[k].args.length ca) xs[k].args := by
  obtain ⟨b, off, cs, h1, h2, ⟨va, rfl, ha⟩, h4⟩ := h.at k hk
  obtain ⟨aa, ca, rfl, _⟩ := ha.out
  have c0 := h4 0 (by simp)
  have c1 := h4 1 (by simp)
  simp at c0 c1
  exact ⟨b, off, aa, ca, h1, block_lt c0, c0, c1, ha⟩

set_option maxHeartbeats 16000000 in
theorem wthrough_any (wb : World) (B X Y nv nb cb b steps t : Nat) (vv ve0 : Value) (seed : Int) (now0 : List Int) (es0 : List (Evt × Value)) (bs : List Blk) (ab : Option Addr) (w : World) (hs : WkS wb B X Y vv (.slice ab nb cb) nv seed ((steps - t : Nat) : Int) now0 ve0 es0 w) (hbs : SlOf wb 3 (RBlk wb) (.slice ab nb cb) bs) (hnb : bs.length = nb) (hf : FitsR nv bs) (hb : b < nb) (ht : t ≤ steps) (hst : steps ≤ 5000) (hnv : nv ≤ 1000) (hnb2 : nb ≤ 1000) (hes : es0.length ≤ t) (hrun : runM bs nv seed t = ⟨.come b, now0, es0.map (·.1)⟩) :
    Calls Try.prog 8 #[.pointer (some ⟨X, 0, none⟩), .int .i64 (b : Int)] w fun e w' => ∃ r : Int, e = .returned (.int .i64 r) ∧ ThEnd wb B X Y vv (.slice ab nb cb) nv seed bs steps t r w' := by
  obtain ⟨iE, hiE, hzE, hzE1, hzE2⟩ := ru_parts infoEv
  have HC := wstep_any X vv (.slice ab nb cb) (.slice (some ⟨Y, 0, none⟩) nv nv) ve0 seed ((steps - t : Nat) : Int) (decide (1 ≤ ((steps - t : Nat) : Int))) w hs.bx (by omega) (by omega) rfl
  have hbl : b < bs.length := by omega
  obtain ⟨blk, hblk⟩ : ∃ blk, bs[b]'hbl = blk := ⟨_, rfl⟩
  have hbm : blk ∈ bs := by rw [← hblk]; exact List.getElem_mem hbl
  have hbg : bs[b]? = some blk := by rw [List.getElem?_eq_getElem hbl, hblk]
  obtain ⟨b5, off5, ap, cp, ai, ci, ae, ce, rfl, lb5, p0, p1, p2, hi, he⟩ := blk_atR hbs b hbl
  rw [hblk] at p0 p1 p2 hi he
  have fi := hf.ins blk hbm
  have fe := hf.edg blk hbm
  obtain ⟨np, hnp⟩ : ∃ np, blk.params.length = np := ⟨_, rfl⟩
  obtain ⟨ni, hni⟩ : ∃ ni, blk.instrs.length = ni := ⟨_, rfl⟩
  obtain ⟨ne, hne⟩ : ∃ ne, blk.edges.length = ne := ⟨_, rfl⟩
  rw [hnp] at p0
  rw [hni] at p1 hi fi
  rw [hne] at p2 he fe
  have HS := hs.gone
  have HBLK : Hid (bs[b]? = some blk ∧ blk.instrs.length = ni ∧ blk.edges.length = ne ∧ bs.length = nb) := ⟨hbg, hni, hne, hnb⟩
  have HSI : Hid (SlOf wb 3 (RIns wb) (.slice ai ni ci) blk.instrs) := hi
  have HSE : Hid (SlOf wb 2 (REdg wb) (.slice ae ne ce) blk.edges) := he
  have HBS : Hid (SlOf wb 3 (RBlk wb) (.slice (some ⟨b5, off5, none⟩) nb cb) bs) := hbs
  have HF : Hid (FitsR nv bs) := hf
  have HFI : Hid (∀ x ∈ blk.instrs, x.operands.length ≤ 1000 ∧ ∀ o ∈ x.operands, 0 ≤ o.value ∧ o.value < (nv : Int)) := fi.2
  have HFE : Hid (∀ e ∈ blk.edges, (0 ≤ e.block ∧ e.block < (bs.length : Int)) ∧ e.args.length ≤ 1000 ∧ (∀ v ∈ e.args, 0 ≤ v ∧ v < (nv : Int)) ∧ (bs.getD e.block.toNat emptyB).params.length = e.args.length) := fe.2
  have hni2 := fi.1
  have hne2 := fe.1
  have HRUN : Hid (runM bs nv seed t = ⟨.come b, now0, es0.map (·.1)⟩) := hrun
  by_cases hl0 : steps = t
  · have q : decide (1 ≤ ((steps - t : Nat) : Int)) = false := by simp; omega
    rw [q] at HC
    obtain ⟨W, hW⟩ : ∃ W, W = w.setCell ⟨X, 3, none⟩ (.int .i64 (((steps - t : Nat) : Int) - 1)) := ⟨_, rfl⟩
    rw [← hW] at HS HC
    have HE : Hid (ThEnd wb B X Y vv (.slice (some ⟨b5, off5, none⟩) nb cb) nv seed bs steps t (-1) W) := ⟨_, _, _, _, HS, Or.inl ⟨rfl, by rw [hl0, hrun]⟩⟩
    clear hW
    clear hs hbs hnb hf hrun hbl hbm hbg p0 p1 p2 hi he fi fe HS q hblk hnp hni hne
    go_enter Try.func8, Try.ntmps8
    go_wp2_with fail
    refine HC.mono ?_
    clear HC
    rintro e w1 ⟨rfl, hw1⟩
    subst hw1
    go_wp2
    go_ret
    exact ⟨_, rfl, HE.out⟩
  · have q : decide (1 ≤ ((steps - t : Nat) : Int)) = true := by simp; omega
    rw [q] at HC
    have hlow : Below wb.heap.size wb (w.setCell ⟨X, 3, none⟩ (.int .i64 (((steps - t : Nat) : Int) - 1))) := HS.low
    obtain ⟨W, hW⟩ : ∃ W, W = w.setCell ⟨X, 3, none⟩ (.int .i64 (((steps - t : Nat) : Int) - 1)) := ⟨_, rfl⟩
    rw [← hW] at HS hlow HC
    have e0 := (hlow.cell (p := ⟨b5, _, none⟩) lb5).trans p0
    have e1 := (hlow.cell (p := ⟨b5, _, none⟩) lb5).trans p1
    have e2 := (hlow.cell (p := ⟨b5, _, none⟩) lb5).trans p2
    have x1 : W.cell? ⟨X, 1, none⟩ = some (.slice (some ⟨b5, off5, none⟩) nb cb) := HS.bx.cell (i := 1) (by omega)
    obtain ⟨P, hP⟩ : ∃ P, W.heap.size = P := ⟨_, rfl⟩
    obtain ⟨W2, hW2⟩ : ∃ W2, W2 = W.alloc (.cells #[.slice ap np cp, .slice ai ni ci, .slice ae ne ce] 43) := ⟨_, rfl⟩
    have b2 : Below W.heap.size W W2 := by rw [hW2]; exact (Below.refl _ _).alloc (Nat.le_refl _) _
    have rP : W2.rowIs P 43 3 (fun q => if q = 0 then .slice ap np cp else if q = 1 then .slice ai ni ci else .slice ae ne ce) := by
      rw [hW2, ← hP]
      exact World.rowIs_alloc _ _ _ _ fun i hi => by
        simp at hi
        match i, hi with | 0, _ => rfl | 1, _ => rfl | 2, _ => rfl
    have hes1 : ((steps - t : Nat) : Int) - 1 = ((steps - (t + 1) : Nat) : Int) := by omega
    rw [hes1] at HS
    have HK0 : Hid (WkS wb B X Y vv (.slice (some ⟨b5, off5, none⟩) nb cb) nv seed ((steps - (t + 1) : Nat) : Int) now0 ve0 es0 W2) := HS.below b2
    have HP0 : Hid (W2.rowIs P 43 3 (fun q => if q = 0 then .slice ap np cp else if q = 1 then .slice ai ni ci else .slice ae ne ce) ∧ some P ≠ ve0.ownBlock) := ⟨rP, fun e => by have := own_base HS.own e.symm; omega⟩
    have HR0 : Hid (runM bs nv seed (t + 1) = settle bs b 0 0 now0 (es0.map (·.1))) := by show srStep bs seed (runM bs nv seed t) = _; rw [hrun]; rfl
    have f1 : W2.cell? ⟨P, 1, none⟩ = some (.slice ai ni ci) := rP.cell (i := 1) (by omega)
    have HW2 : Hid (W2 = W.alloc (.cells #[.slice ap np cp, .slice ai ni ci, .slice ae ne ce] 43)) := hW2
    have HPP : Hid (W.heap.size = P) := hP
    have lPX : X < P := by rw [← hP]; have := HS.lX; have := HS.lB; omega
    have lPY : Y < P := by rw [← hP]; have := HS.lY; have := HS.lB; omega
    have lPB : B ≤ P := by rw [← hP]; exact HS.lB
    have HXY : Hid (X ≠ Y ∧ X < B ∧ Y < B ∧ wb.heap.size ≤ X ∧ wb.heap.size ≤ Y) := ⟨hs.xy, hs.lX, hs.lY, hs.hX, hs.hY⟩
    have hbk : b < nb + 1 := by omega
    have wbk : IntKind.i64.wrap (b : Int) = (b : Int) := by rw [IntKind.wrap_i64]; omega
    clear hs hbs hnb hf hrun hbl hbm hbg p0 p1 p2 hi he fi fe HS q hblk hnp hni hne hlow b2 rP hes1 hW2 hP
    go_enter Try.func8, Try.ntmps8
    go_wp2_with fail
    refine HC.mono ?_
    clear HC
    rintro e w1 ⟨rfl, hw1⟩
    subst hw1
    clear hW
    go_upto_region 4 with fail
    rw [← HW2.out, HPP.out]
    clear HW2 HPP e0 e1 e2 x1
    go_wp2_with fail
    clear f1
    go_loopw [24, 6] (fun i s wr => ∃ (k t' : Nat) (tk : Int) (nw : List Int) (ve : Value) (es : List (Evt × Value)), k ≤ ni ∧ i = .int .i64 k ∧ s = .int .i64 tk ∧ t < t' ∧ t' ≤ steps ∧ es.length < t' ∧ Hid (WkS wb B X Y vv (.slice (some ⟨b5, off5, none⟩) nb cb) nv seed ((steps - t' : Nat) : Int) nw ve es wr) ∧ Hid (wr.rowIs P 43 3 (fun q => if q = 0 then .slice ap np cp else if q = 1 then .slice ai ni ci else .slice ae ne ce) ∧ some P ≠ ve.ownBlock) ∧ Hid (runM bs nv seed t' = settle bs b k tk nw (es.map (·.1))) ∧ Hid (k = ni → ne = 0 ∨ 0 ≤ tk ∧ tk < (ne : Int))) (fun i _ _ => ni - (intOf i).toNat)
    case atStart => exact ⟨0, t + 1, 0, now0, ve0, es0, Nat.zero_le _, rfl, rfl, by omega, by omega, by omega, HK0, HP0, HR0, by show _ → _; intro _; omega⟩
    case round =>
      clear HK0 HP0 HR0
      obtain ⟨k, t', tk, nw, ve, es, hk, rfl, rfl, ht1, ht2, hest, HK, HP, HR, HT⟩ := hrel
      by_cases hlt : k < ni
      · have hkl : k < blk.instrs.length := by rw [HBLK.out.2.1]; exact hlt
        obtain ⟨b7, off7, ao, co, asp, csp, rfl, lb7, i0, i1, i2, ho⟩ := ins_at HSI.out k hkl
        obtain ⟨x, hx⟩ : ∃ x, blk.instrs[k]'hkl = x := ⟨_, rfl⟩
        have hxm : x ∈ blk.instrs := by rw [← hx]; exact List.getElem_mem hkl
        have hxg : blk.instrs[k]? = some x := by rw [List.getElem?_eq_getElem hkl, hx]
        rw [hx] at i0 i1 i2 ho
        obtain ⟨fno, fd⟩ := HFI.out x hxm
        obtain ⟨op, os, sp⟩ := x
        simp only at i0 i1 i2 ho fno fd
        obtain ⟨no, hno⟩ : ∃ no, os.length = no := ⟨_, rfl⟩
        rw [hno] at i1 ho fno
        generalize sp.length = ns at *
        obtain ⟨n, hn⟩ : ∃ n, es.length = n := ⟨_, rfl⟩
        have hnt : n < t' := by rw [← hn]; exact hest
        obtain ⟨av, cv, rfl⟩ : ∃ av cv, ve = .slice av n cv := by
          rcases HK.out.own.2 with ⟨h1, h2⟩ | ⟨g, cap, cur, h1, _⟩
          · exact ⟨_, _, by rw [h1, ← hn, h2]⟩
          · exact ⟨_, _, by rw [h1, ← hn]⟩
        have hlow := HK.out.low
        have e0 := (hlow.cell (p := ⟨b7, _, none⟩) lb7).trans i0
        have e1 := (hlow.cell (p := ⟨b7, _, none⟩) lb7).trans i1
        have e2 := (hlow.cell (p := ⟨b7, _, none⟩) lb7).trans i2
        obtain ⟨Q, hQ⟩ : ∃ Q, wr.heap.size = Q := ⟨_, rfl⟩
        obtain ⟨W3, hW3⟩ : ∃ W3, W3 = wr.alloc (.cells #[.int .i64 op, .slice ao no co, .slice asp ns csp] 47) := ⟨_, rfl⟩
        have b3 : Below wr.heap.size wr W3 := by rw [hW3]; exact (Below.refl _ _).alloc (Nat.le_refl _) _
        have k3 := HK.out.below b3
        have rQ3 : W3.rowIs Q 47 3 (fun q => if q = 0 then .int .i64 op else if q = 1 then .slice ao no co else .slice asp ns csp) := by
          rw [hW3, ← hQ]
          exact World.rowIs_alloc _ _ _ _ fun i hi => by
            simp at hi
            match i, hi with | 0, _ => rfl | 1, _ => rfl | 2, _ => rfl
        have rP3 : W3.rowIs P 43 3 (fun q => if q = 0 then .slice ap np cp else if q = 1 then .slice (some ⟨b7, off7, none⟩) ni ci else .slice ae ne ce) := HP.out.1.of_block (b3.block _ HP.out.1.lt)
        have HC := wstep_any X vv (.slice (some ⟨b5, off5, none⟩) nb cb) (.slice (some ⟨Y, 0, none⟩) nv nv) (.slice av n cv) seed ((steps - t' : Nat) : Int) (decide (1 ≤ ((steps - t' : Nat) : Int))) W3 k3.bx (by omega) (by omega) rfl
        have hQX : X < Q := by have h1 := k3.lX; have h2 := HK.out.lB; omega
        have hQY : Y < Q := by have h1 := k3.lY; have h2 := HK.out.lB; omega
        have hQv : some Q ≠ (Value.slice av n cv).ownBlock := fun e => by have := own_base HK.out.own e.symm; omega
        have hPv := HP.out.2
        have hPQ : P < Q := by rw [← hQ]; exact HP.out.1.lt
        have hki : k < ni + 1 := by omega
        have wk : IntKind.i64.wrap (k : Int) = (k : Int) := by rw [IntKind.wrap_i64]; omega
        by_cases hl0 : steps = t'
        · have q : decide (1 ≤ ((steps - t' : Nat) : Int)) = false := by simp; omega
          rw [q] at HC
          have k4 := k3.gone
          obtain ⟨W4, hW4⟩ : ∃ W4, W4 = W3.setCell ⟨X, 3, none⟩ (.int .i64 (((steps - t' : Nat) : Int) - 1)) := ⟨_, rfl⟩
          rw [← hW4] at HC k4
          have HE : Hid (ThEnd wb B X Y vv (.slice (some ⟨b5, off5, none⟩) nb cb) nv seed bs steps t (-1) W4) := ⟨_, _, _, _, k4, Or.inl ⟨rfl, by rw [hl0, HR.out, settle_evs]⟩⟩
          have HW3 : Hid (W3 = wr.alloc (.cells #[.int .i64 op, .slice ao no co, .slice asp ns csp] 47)) := hW3
          clear hW4 hW3 k4 k3 rQ3 rP3 b3 HK HP HR HT i0 i1 i2 ho fd hxm hxg hx q hlow hl0
          go_upto_region 8 with fail
          rw [← HW3.out]
          clear HW3 e0 e1 e2
          go_wp2_with fail
          refine HC.mono ?_
          clear HC
          rintro e w4 ⟨rfl, hw4⟩
          subst hw4
          go_wp2
          go_ret
          exact ⟨_, rfl, HE.out⟩
        · have q : decide (1 ≤ ((steps - t' : Nat) : Int)) = true := by simp; omega
          rw [q] at HC
          have k4 := k3.gone
          have rQ4 := rQ3.setOther (a := ⟨X, 3, none⟩) (show Q ≠ X by omega) (.int .i64 (((steps - t' : Nat) : Int) - 1))
          have rP4 := rP3.setOther (a := ⟨X, 3, none⟩) (show P ≠ X by omega) (.int .i64 (((steps - t' : Nat) : Int) - 1))
          obtain ⟨W4, hW4⟩ : ∃ W4, W4 = W3.setCell ⟨X, 3, none⟩ (.int .i64 (((steps - t' : Nat) : Int) - 1)) := ⟨_, rfl⟩
          have hz4 : W4.heap.size = W3.heap.size := by rw [hW4]; simp [World.setCell]
          rw [← hW4] at HC k4 rQ4 rP4
          have el : ((steps - t' : Nat) : Int) - 1 = ((steps - (t' + 1) : Nat) : Int) := by omega
          rw [el] at k4
          have q0 : W4.cell? ⟨Q, 0, none⟩ = some (.int .i64 op) := rQ4.cell (i := 0) (by omega)
          have q1 : W4.cell? ⟨Q, 1, none⟩ = some (.slice ao no co) := rQ4.cell (i := 1) (by omega)
          have q2 : W4.cell? ⟨Q, 2, none⟩ = some (.slice asp ns csp) := rQ4.cell (i := 2) (by omega)
          have HCR := wreads_any X Y nv no co vv (.slice (some ⟨b5, off5, none⟩) nb cb) (.slice av n cv) (.slice asp ns csp) seed ((steps - (t' + 1) : Nat) : Int) op nw os ao W4 k4.bx k4.nw (ho.below k4.low fun _ _ h => h) hno fd fno hnv
          have HK4 : Hid (WkS wb B X Y vv (.slice (some ⟨b5, off5, none⟩) nb cb) nv seed ((steps - (t' + 1) : Nat) : Int) nw (.slice av n cv) es W4) := k4
          have HQ4 : Hid (W4.rowIs Q 47 3 (fun q => if q = 0 then .int .i64 op else if q = 1 then .slice ao no co else .slice asp ns csp)) := rQ4
          have HP4 : Hid (W4.rowIs P 43 3 (fun q => if q = 0 then .slice ap np cp else if q = 1 then .slice (some ⟨b7, off7, none⟩) ni ci else .slice ae ne ce)) := rP4
          have HO : Hid (SlOf wb 5 ROpr (.slice ao no co) os ∧ os.length = no ∧ ∀ o ∈ os, 0 ≤ o.value ∧ o.value < (nv : Int)) := ⟨ho, hno, fd⟩
          have HXG : Hid (blk.instrs[k]? = some ⟨op, os, sp⟩) := hxg
          have HW3 : Hid (W3 = wr.alloc (.cells #[.int .i64 op, .slice ao no co, .slice asp ns csp] 47)) := hW3
          have HQQ : Hid (wr.heap.size = Q) := hQ
          have HN : Hid (es.length = n) := hn
          clear hW4 hW3 k4 k3 rQ3 rP3 rQ4 rP4 b3 HK HP i0 i1 i2 ho fd hxm hxg hx q hlow hQ el hn hz4 hno
          go_upto_region 8 with fail
          rw [← HW3.out, HQQ.out]
          clear HW3 HQQ e0 e1 e2
          go_wp2_with fail
          refine HC.mono ?_
          clear HC
          rintro e w4 ⟨rfl, hw4⟩
          rw [hw4]
          clear hw4 w4
          go_wp2_with fail
          refine HCR.mono ?_
          clear HCR q0 q1 q2
          rintro e w4 ⟨ar, nr, cr, hnr, rfl, hg4⟩
          obtain ⟨rd, hrd⟩ : ∃ rd, readsM nw os = rd := ⟨_, rfl⟩
          rw [hrd] at hnr hg4
          have hl4 := hg4.low
          have k5 := HK4.out.below hl4
          have s5 : SlOf w4 1 RInt (.slice ar nr cr) rd := hg4.sl (by rw [← hnr]; have h1 := reads_few nw os; rw [hrd, HO.out.2.1] at h1; unfold longest; omega)
          obtain ⟨tk2, htk2⟩ : ∃ tk2, takesM seed blk.instrs ne (k : Int) rd = tk2 := ⟨_, rfl⟩
          have own5 := hg4.own
          have HRD4 : Hid (RdOk w4 B (.slice av n cv) (⟨b, k, rd, tk2⟩, .slice ar nr cr)) := ⟨s5, Or.inr fun g hg => by
            have h1 := own_base own5 hg
            have h2 := HK4.out.lB
            exact ⟨by omega, h1.2, fun e => by have h3 := own_base HK4.out.own e.symm; omega⟩⟩
          have hrY : rd = [] ∨ ∀ g, (Value.slice ar nr cr).ownBlock = some g → g ≠ Y := Or.inr fun g hg => by
            have h1 := own_base own5 hg
            have h2 := HK4.out.lB
            have h3 := HK4.out.lY
            omega
          have hoY : os = [] ∨ ∀ g, (Value.slice ao no co).ownBlock = some g → g ≠ Y := (sl_own (by decide) HO.out.1).imp id fun h g hg => by
            have h1 := h g hg
            have h2 := HXY.out.2.2.2.2
            omega
          have rQ5 := HQ4.out.of_block (hl4.block _ HQ4.out.lt)
          have q0 : w4.cell? ⟨Q, 0, none⟩ = some (.int .i64 op) := rQ5.cell (i := 0) (by omega)
          have q1 : w4.cell? ⟨Q, 1, none⟩ = some (.slice ao no co) := rQ5.cell (i := 1) (by omega)
          have q2 : w4.cell? ⟨Q, 2, none⟩ = some (.slice asp ns csp) := rQ5.cell (i := 2) (by omega)
          have HC := wmakes_any X Y nv no co nr cr vv (.slice (some ⟨b5, off5, none⟩) nb cb) (.slice av n cv) (.slice asp ns csp) seed ((steps - (t' + 1) : Nat) : Int) op nw rd os ao ar w4 k5.bx k5.nw k5.xy k5.ln (HO.out.1.below k5.low fun _ _ h => h) hoY HO.out.2.1 HO.out.2.2 fno hnv s5 hnr.symm hrY
          obtain ⟨nw2, hnw2⟩ : ∃ nw2, makesM seed op rd 0 os nw = nw2 := ⟨_, rfl⟩
          rw [hnw2] at HC
          have hln2 : nw2.length = nv := by rw [← hnw2, makesM_length]; exact k5.ln
          have HK4b : Hid (WkS wb B X Y vv (.slice (some ⟨b5, off5, none⟩) nb cb) nv seed ((steps - (t' + 1) : Nat) : Int) nw (.slice av n cv) es w4) := k5
          have HP4b : Hid (w4.rowIs P 43 3 (fun q => if q = 0 then .slice ap np cp else if q = 1 then .slice (some ⟨b7, off7, none⟩) ni ci else .slice ae ne ce)) := HP4.out.of_block (hl4.block _ HP4.out.lt)
          have HS4 : Hid (SlOf w4 1 RInt (.slice ar nr cr) rd ∧ rd.length = nr) := ⟨s5, hnr.symm⟩
          have HRY : Hid (rd = [] ∨ ∀ g, (Value.slice ar nr cr).ownBlock = some g → g ≠ Y) := hrY
          have HLN2 : Hid (nw2.length = nv) := hln2
          have HPU : Hid (readsM nw os = rd ∧ takesM seed blk.instrs ne (k : Int) rd = tk2 ∧ makesM seed op rd 0 os nw = nw2) := ⟨hrd, htk2, hnw2⟩
          clear hl4 k5 own5 hrY hoY rQ5 hnw2 hln2 hg4 hnr hrd htk2 s5 HK4 HQ4 HP4
          go_wp2_with fail
          refine HC.mono ?_
          clear HC q0 q1 q2
          rintro e w5 ⟨rfl, r5, g5⟩
          have k5 := HK4b.out.made g5 r5 HLN2.out
          have HK5 : Hid (WkS wb B X Y vv (.slice (some ⟨b5, off5, none⟩) nb cb) nv seed ((steps - (t' + 1) : Nat) : Int) nw2 (.slice av n cv) es w5) := k5
          have HP5 : Hid (w5.rowIs P 43 3 (fun q => if q = 0 then .slice ap np cp else if q = 1 then .slice (some ⟨b7, off7, none⟩) ni ci else .slice ae ne ce)) := HP4b.out.of_block (g5.block _ HP4b.out.lt (fun e => by simp at e; omega))
          have HRD5 : Hid (RdOk w5 B (.slice av n cv) (⟨b, k, rd, tk2⟩, .slice ar nr cr)) := HRD4.out.keep g5.size fun g hB hg hn => ⟨g5.block g hg (fun e => by simp at e; have h1 := k5.lY; omega), hn⟩
          have s5 : SlOf w5 1 RInt (.slice ar nr cr) rd := sl_far HS4.out.1 g5 HRY.out
          have hd5 : Below w5.heap.size w5 w5.drew := (Below.refl _ _).drew
          have hlw : Below wb.heap.size wb w5.drew := k5.low.trans (hd5.mono k5.low.size)
          have HC := takes_any seed blk.instrs (.slice ap np cp) (some ⟨b7, off7, none⟩) ae ni ci ne ce (k : Int) rd ar nr cr tk2 w5.drew (HSI.out.below hlw (RIns.below hlw)) HBLK.out.2.1 (by unfold longest; omega) HS4.out.2 (s5.below hd5 fun _ _ h => h) HPU.out.2.1
          have c2 : w5.cell? ⟨X, 2, none⟩ = some (.int .i64 seed) := k5.bx.cell (i := 2) (by omega)
          have p0 : w5.cell? ⟨P, 0, none⟩ = some (.slice ap np cp) := HP5.out.cell (i := 0) (by omega)
          have p1 : w5.cell? ⟨P, 1, none⟩ = some (.slice (some ⟨b7, off7, none⟩) ni ci) := HP5.out.cell (i := 1) (by omega)
          have p2 : w5.cell? ⟨P, 2, none⟩ = some (.slice ae ne ce) := HP5.out.cell (i := 2) (by omega)
          have lX5 := k5.bx.lt
          have lP5 := HP5.out.lt
          have HSF : Hid (∀ w', Below w5.heap.size w5 w' → (fun w' => w'.cell? ⟨X, 2, none⟩ = some (.int .i64 seed) ∧ w'.cell? ⟨P, 0, none⟩ = some (.slice ap np cp) ∧ w'.cell? ⟨P, 1, none⟩ = some (.slice (some ⟨b7, off7, none⟩) ni ci) ∧ w'.cell? ⟨P, 2, none⟩ = some (.slice ae ne ce)) w') := fun w' hh => ⟨(hh.cell lX5).trans c2, (hh.cell lP5).trans p0, (hh.cell lP5).trans p1, (hh.cell lP5).trans p2⟩
          clear k5 r5 g5 s5 hd5 hlw c2 p0 p1 p2 HK4b HP4b HRD4 HS4 HRY
          go_upto_region 12 with fail
          refine wp_region_X (fun w' => w'.cell? ⟨X, 2, none⟩ = some (.int .i64 seed) ∧ w'.cell? ⟨P, 0, none⟩ = some (.slice ap np cp) ∧ w'.cell? ⟨P, 1, none⟩ = some (.slice (some ⟨b7, off7, none⟩) ni ci) ∧ w'.cell? ⟨P, 2, none⟩ = some (.slice ae ne ce)) 99 (by kernel_rfl) (HSF.out _ (Below.refl _ _).drew) (fun hHeld => ?_)
          refine wpXt (v := ?_) 0 rfl (by kernel_rfl) (fun _ _ _ h => h) (by rfl) ?_ hHeld ?_
          rotate_left
          · intro w' hSw
            go_simp <;> with_reducible rfl
          try simp only [Act.put, List.setIfInBounds_toArray, List.set_cons_zero, List.set_cons_succ]
          refine wpXt (v := ?_) 1 rfl (by kernel_rfl) (fun _ _ _ h => h) (by rfl) ?_ hHeld ?_
          rotate_left
          · intro w' hSw
            go_simp <;> with_reducible rfl
          try simp only [Act.put, List.setIfInBounds_toArray, List.set_cons_zero, List.set_cons_succ]
          refine wpXt (v := ?_) 2 rfl (by kernel_rfl) (fun _ _ _ h => h) (by rfl) ?_ hHeld ?_
          rotate_left
          · intro w' hSw
            go_simp <;> with_reducible rfl
          try simp only [Act.put, List.setIfInBounds_toArray, List.set_cons_zero, List.set_cons_succ]
          refine wpXt (v := ?_) 3 rfl (by kernel_rfl) (fun _ _ _ h => h) (by rfl) ?_ hHeld ?_
          rotate_left
          · intro w' hSw
            go_simp <;> with_reducible rfl
          try simp only [Act.put, List.setIfInBounds_toArray, List.set_cons_zero, List.set_cons_succ]
          refine wpXt (v := ?_) 4 rfl (by kernel_rfl) (fun _ _ _ h => h) (by rfl) ?_ hHeld ?_
          rotate_left
          · intro w' hSw
            go_simp <;> with_reducible rfl
          try simp only [Act.put, List.setIfInBounds_toArray, List.set_cons_zero, List.set_cons_succ]
          refine wpXt (v := ?_) 5 rfl (by kernel_rfl) (fun _ _ _ h => h) (by rfl) ?_ hHeld ?_
          rotate_left
          · intro w' hSw
            go_simp <;> with_reducible rfl
          try simp only [Act.put, List.setIfInBounds_toArray, List.set_cons_zero, List.set_cons_succ]
          refine wpXt (v := ?_) 6 rfl (by kernel_rfl) (fun _ _ _ h => h) (by rfl) ?_ hHeld ?_
          rotate_left
          · intro w' hSw
            go_simp <;> with_reducible rfl
          try simp only [Act.put, List.setIfInBounds_toArray, List.set_cons_zero, List.set_cons_succ]
          refine wpXs 7 rfl (by kernel_rfl) (fun K hK => ?_)
          go_simp
          refine HC.mono ?_
          clear HC
          rintro e w6 ⟨rfl, hb6⟩
          have hb6' : Below w5.heap.size w5 w6 := ((Below.refl _ _).drew).trans hb6
          have HK6 : Hid (WkS wb B X Y vv (.slice (some ⟨b5, off5, none⟩) nb cb) nv seed ((steps - (t' + 1) : Nat) : Int) nw2 (.slice av n cv) es w6) := HK5.out.below hb6'
          have HP6 : Hid (w6.rowIs P 43 3 (fun q => if q = 0 then .slice ap np cp else if q = 1 then .slice (some ⟨b7, off7, none⟩) ni ci else .slice ae ne ce)) := HP5.out.of_block (hb6'.block _ HP5.out.lt)
          have HRD6 : Hid (RdOk w6 B (.slice av n cv) (⟨b, k, rd, tk2⟩, .slice ar nr cr)) := HRD5.out.keep hb6'.size fun g _ hg hn => ⟨hb6'.block g hg, hn⟩
          have HB6 : Hid (Below w5.heap.size w5 w6) := hb6'
          clear hb6 hb6'
          refine hK.out _ _ (HSF.out _ HB6.out) (fun hHeld => ?_)
          clear hK K
          try simp only [Act.put, List.setIfInBounds_toArray, List.set_cons_zero, List.set_cons_succ]
          refine wpXs 8 rfl (by kernel_rfl) (fun K hK => ?_)
          go_simp
          refine hK.out _ _ (HSF.out _ HB6.out) (fun hHeld => ?_)
          clear hK K
          try simp only [Act.put, List.setIfInBounds_toArray, List.set_cons_zero, List.set_cons_succ]
          refine wpAnyX_done (by kernel_rfl) ?_ _

          have own6 := HK6.out.own
          rw [HN.out] at own6
          have oA := own6.alloc (.cells #[.int .i64 (b : Int), .int .i64 (k : Int), .slice ar nr cr, .int .i64 tk2] 53)
          have x5 : w6.cell? ⟨X, 5, none⟩ = some (.slice av n cv) := HK6.out.bx.cell (i := 5) (by omega)
          have hB6 := HK6.out.lB
          have hbA : Below w6.heap.size w6 (w6.alloc (.cells #[.int .i64 (b : Int), .int .i64 (k : Int), .slice ar nr cr, .int .i64 tk2] 53)) := (Below.refl _ _).alloc (Nat.le_refl _) _
          clear hHeld
          go_wp2_with (at_builtin; go_must (refine wpList_append_lies _ rfl _ _ 29 rfl B 53 iE (.agg #[.int .i64 0, .int .i64 0, .slice none 0 0, .int .i64 0]) 4 48 Try.underlying29 hiE hzE hzE1 hzE2 rfl (by omega) (.slice av n cv) n _ (by rfl) oA ⟨w6.heap.size, 0, none⟩ 1 1 [.int .i64 (b : Int), .int .i64 (k : Int), .slice ar nr cr, .int .i64 tk2] (by rfl) (by rfl) ?e1 ?e2 (by omega) ?e3 ?e4 ?e5 (w6.heap.size + 1) ?e6 ?_))
          rotate_left
          any_goals (first | (exact ru_news rfl) | rfl | (show Value.oneCell' _ = true; simp [Value.oneCell']) | (intro u hu; simp at hu; rcases hu with rfl | rfl | rfl | rfl <;> rfl) | (unfold maxLen; omega) | omega | (simp; omega) | (simp; rfl) | (simp; done))
          intro g cap w7 hown hgrow hat hgl
          have hat2 : (Value.slice av n cv).ownBlock = some g ∨ w6.heap.size ≤ g := by
            rcases hat with h1 | h1
            · exact Or.inl h1
            · right; omega
          have k7 := HK6.out.push HRD6.out hbA hgrow HN.out hown hat2
          have nX6 : some X ≠ (Value.slice av n cv).ownBlock := fun e => by have h1 := own_base HK6.out.own e.symm; have h2 := HK6.out.lX; omega
          have bx7 := HK6.out.bx.of_block ((hgrow.block X (by have h1 := HK6.out.bx.lt; have h2 := hbA.size; omega) nX6).trans (hbA.block X HK6.out.bx.lt))
          have c5 : w7.cell? ⟨X, 5, none⟩ = some (.slice av n cv) := bx7.cell (i := 5) (by omega)
          have z5 := bx7.frozen 5
          have rP7 := HP6.out.of_block ((hgrow.block P (by have h1 := HP6.out.lt; have h2 := hbA.size; omega) hPv).trans (hbA.block P HP6.out.lt))
          have HK7 : Hid (WkS wb B X Y vv (.slice (some ⟨b5, off5, none⟩) nb cb) nv seed ((steps - (t' + 1) : Nat) : Int) nw2 (.slice (some ⟨g, 0, none⟩) (n + 1) cap) (es ++ [(⟨b, k, rd, tk2⟩, .slice ar nr cr)]) (w7.setCell ⟨X, 5, none⟩ (.slice (some ⟨g, 0, none⟩) (n + 1) cap))) := k7
          have HP7 : Hid ((w7.setCell ⟨X, 5, none⟩ (.slice (some ⟨g, 0, none⟩) (n + 1) cap)).rowIs P 43 3 (fun q => if q = 0 then .slice ap np cp else if q = 1 then .slice (some ⟨b7, off7, none⟩) ni ci else .slice ae ne ce) ∧ some P ≠ (Value.slice (some ⟨g, 0, none⟩) (n + 1) cap).ownBlock) := ⟨rP7.setOther (a := ⟨X, 5, none⟩) (show P ≠ X by omega) _, fun e => by
            have e' : P = g := by simpa [Value.ownBlock] using e
            rcases hat2 with h1 | h1
            · exact hPv (by rw [h1, e'])
            · have := HP6.out.lt; omega⟩
          have HR7 : Hid (runM bs nv seed (t' + 1) = settle bs b (k + 1) tk2 nw2 ((es ++ [((⟨b, k, rd, tk2⟩ : Evt), Value.slice ar nr cr)]).map (·.1))) := by
            show srStep bs seed (runM bs nv seed t') = _
            rw [HR.out, step_ins bs seed b k tk nw (es.map (·.1)) blk ⟨op, os, sp⟩ HBLK.out.1 HXG.out]
            simp only [HBLK.out.2.2.1, HPU.out.1, HPU.out.2.1, HPU.out.2.2, List.map_append, List.map_cons, List.map_nil]
          have HT7 : Hid (k + 1 = ni → ne = 0 ∨ 0 ≤ tk2 ∧ tk2 < (ne : Int)) := by
            show _ → _
            intro h
            rw [← HPU.out.2.1]
            exact takes_bd seed blk.instrs ne k rd (by rw [HBLK.out.2.1]; exact h)
          have HLE : Hid ((es ++ [((⟨b, k, rd, tk2⟩ : Evt), Value.slice ar nr cr)]).length < t' + 1) := by show _ < _; rw [List.length_append]; simp; omega
          clear hown hgrow hat hgl hat2 k7 nX6 bx7 rP7 oA own6 hbA x5 HK6 HP6 HRD6 HR HT HK5 HP5 HRD5 HB6
          go_wp2
          go_roundw
          case rel => exact ⟨k + 1, t' + 1, tk2, nw2, _, _, by omega, by go_num, rfl, by omega, by omega, HLE.out, HK7, HP7, HR7, HT7⟩
          case measure => simp [intOf]; omega
      · have hkn : k = ni := by omega
        subst hkn
        have htk := HT.out rfl
        have p2 : wr.cell? ⟨P, 2, none⟩ = some (.slice ae ne ce) := HP.out.1.cell (i := 2) (by omega)
        by_cases hne0 : ne = 0
        · have HE : Hid (ThEnd wb B X Y vv (.slice (some ⟨b5, off5, none⟩) nb cb) nv seed bs steps t (-1) wr) := by
            have hst2 : settle bs b k tk nw (es.map (·.1)) = ⟨.stop, nw, es.map (·.1)⟩ := settle_end bs b k tk nw _ blk HBLK.out.1 (by rw [HBLK.out.2.1]; exact Nat.le_refl _) (List.length_eq_zero_iff.1 (by rw [HBLK.out.2.2.1]; exact hne0))
            refine ⟨_, _, _, _, HK.out, Or.inl ⟨rfl, ?_⟩⟩
            rw [evs_at bs nv seed steps t' ht2 (by rw [HR.out, hst2]), HR.out, hst2]
          subst hne0
          clear HK HP HR HT htk
          go_wp2
          go_ret
          exact ⟨_, rfl, HE.out⟩
        · have htk2 := htk.resolve_left hne0
          obtain ⟨K, hK⟩ : ∃ K : Nat, tk = (K : Int) := ⟨tk.toNat, by omega⟩
          subst hK
          have hKn : K < ne := by omega
          have hKl : K < blk.edges.length := by rw [HBLK.out.2.2.1]; exact hKn
          obtain ⟨b9, off9, aa, ca, rfl, lb9, i0, i1, ha⟩ := edg_at HSE.out K hKl
          obtain ⟨e, he⟩ : ∃ e, blk.edges[K]'hKl = e := ⟨_, rfl⟩
          have heg : blk.edges[((K : Int)).toNat]? = some e := by rw [Int.toNat_natCast, List.getElem?_eq_getElem hKl, he]
          have hem : e ∈ blk.edges := by rw [← he]; exact List.getElem_mem hKl
          rw [he] at i0 i1 ha
          obtain ⟨fb, fa, fv, fp⟩ := HFE.out e hem
          obtain ⟨eb, args⟩ := e
          simp only at i0 i1 ha fb fa fv fp
          obtain ⟨b2, hb2⟩ : ∃ b2 : Nat, eb = (b2 : Int) := ⟨eb.toNat, by omega⟩
          subst hb2
          rw [Int.toNat_natCast] at fp
          have hb2l : b2 < bs.length := by omega
          have hb2n : b2 < nb := by rw [← HBLK.out.2.2.2]; exact hb2l
          have e2g : bs.getD b2 emptyB = bs[b2]'hb2l := by rw [List.getD_eq_getElem?_getD, List.getElem?_eq_getElem hb2l]; rfl
          rw [e2g] at fp
          have hpar := HF.out.par _ (List.getElem_mem hb2l)
          obtain ⟨na, hna⟩ : ∃ na, args.length = na := ⟨_, rfl⟩
          rw [hna] at i1 ha fa fp
          have hlow := HK.out.low
          have c0 := (hlow.cell (p := ⟨b9, _, none⟩) lb9).trans i0
          have c1 := (hlow.cell (p := ⟨b9, _, none⟩) lb9).trans i1
          have HC := whand_any X Y nv nb cb na ca b2 vv ve seed ((steps - t' : Nat) : Int) nw args bs (some ⟨b5, off5, none⟩) aa wb wr HK.out.bx HK.out.nw HK.out.xy HK.out.ln hlow HK.out.hY HBS.out HBLK.out.2.2.2 hb2n ha hna fp fv hpar fa hnv hnb2
          obtain ⟨nw2, hnw2⟩ : ∃ nw2, handM nw (bs[b2]'hb2l).params args = nw2 := ⟨_, rfl⟩
          rw [hnw2] at HC
          have hln2 : nw2.length = nv := by rw [← hnw2]; unfold handM; rw [setsM_length]; exact HK.out.ln
          have hrun2 : runM bs nv seed t' = ⟨.come b2, nw2, es.map (·.1)⟩ := by
            rw [HR.out, settle_on bs b k (K : Int) nw _ blk (bs[b2]'hb2l) ⟨(b2 : Int), args⟩ b2 HBLK.out.1 (by rw [HBLK.out.2.1]; exact Nat.le_refl _) heg (Int.toNat_natCast b2) (List.getElem?_eq_getElem hb2l), hnw2]
          have HLN2 : Hid (nw2.length = nv) := hln2
          have HRUN2 : Hid (runM bs nv seed t' = ⟨.come b2, nw2, es.map (·.1)⟩ ∧ b2 < bs.length) := ⟨hrun2, hb2l⟩
          have HI0 : Hid (wb.cell? ⟨b9, off9 + K * 2, none⟩ = some (.int .i64 (b2 : Int))) := i0
          have q0 : ((ne : Int) == 0) = false := by simp; omega
          have hKc : K < ne + 1 := by omega
          have wK : IntKind.i64.wrap (K : Int) = (K : Int) := by rw [IntKind.wrap_i64]; omega
          clear htk htk2 hne0 he heg hem fb fv fp e2g hpar hlow i0 i1 ha hna hnw2 hln2 hrun2 hb2l HR HT
          go_wp2_with fail
          refine HC.mono ?_
          clear HC c0 c1 p2
          rintro e w9 ⟨rfl, r9, g9⟩
          have k9 := HK.out.made g9 r9 HLN2.out
          have hPY : P ≠ Y := by omega
          have p2 := gr_cell g9 hPY (HP.out.1.cell (i := 2) (by omega))
          have c0 := (k9.low.cell (p := ⟨b9, _, none⟩) lb9).trans HI0.out
          have HE : Hid (ThEnd wb B X Y vv (.slice (some ⟨b5, off5, none⟩) nb cb) nv seed bs steps t (b2 : Int) w9) := ⟨_, _, _, _, k9, Or.inr ⟨b2, t', rfl, HRUN2.out.2, ht1, ht2, rfl, HRUN2.out.1⟩⟩
          clear k9 r9 g9 HK HP hPY
          go_wp2
          go_ret
          exact ⟨_, rfl, HE.out⟩
end Go.Proofs.Ytmkloakahefjiaa
