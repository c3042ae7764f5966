/-
  The contracts of 'orderOf' and of its closure.
-/
import Derived.Test.YtengmgdnpojfjaaFlowF
namespace Go.Proofs.Ytengmgdnpojfjaa
open Go.RowKit
set_option linter.unusedVariables false

theorem newsF {w : World} {ob : Obj} {cs : Array Value} {t : Nat} (h : ob = .cells cs t) : ∀ j u, cs.toList[j]? = some u → (w.alloc ob).cell? ((⟨w.heap.size, 0, none⟩ : Addr).add j) = some u := by
  subst h
  exact World.news_of_block (cs := cs) (t := t) (fr := (0, 0)) (heap_alloc_new w _)

/-- The closure does what the plain one does, with so much fuel. -/
def VisitOk (w0 : World) (N : Nat) (bs : List Blk) (ab : Option Addr) (cb fuel : Nat) : Prop := ∀ (b : Nat) (w : World) (bg : Nat → Bool) (od : List Int) (v : Value), VSt w0 N bs.length (.slice ab bs.length cb) w bg od v → b < bs.length → bg b = false → unb bs.length bg ≤ fuel → unb bs.length bg + od.length ≤ bs.length →
    Calls Try.prog 52 #[.int .i64 b, .pointer (some ⟨N + 1 + 1, 0, none⟩), .pointer (some ⟨N, 0, none⟩), .pointer (some ⟨N + 1 + 1 + 1 + 1 + 1, 0, none⟩), .pointer (some ⟨N + 1 + 1 + 1 + 1, 0, none⟩)] w fun e w' => e = .returned (.tuple #[]) ∧ ∃ v', VSt w0 N bs.length (.slice ab bs.length cb) w' (visitM (succM bs) fuel b (bg, od)).1 (visitM (succM bs) fuel b (bg, od)).2 v'

set_option maxHeartbeats 4000000 in
theorem visit_step (w0 : World) (N : Nat) (bs : List Blk) (ab : Option Addr) (cb : Nat) (hb : SlOf w0 3 (RBlk w0) (.slice ab bs.length cb) bs) (hn : bs.length ≤ 1000) (hsc : ∀ b t, t ∈ succM bs b → t < bs.length) (hrange : ∀ b ∈ bs, ∀ e ∈ b.edges, 0 ≤ e.block ∧ e.block < (bs.length : Int))
    (fuel : Nat) (IH : Hid (VisitOk w0 N bs ab cb fuel)) (b : Nat) (w : World) (bg : Nat → Bool) (od : List Int) (v : Value) (hS : VSt w0 N bs.length (.slice ab bs.length cb) w bg od v) (hbn : b < bs.length) (hbg : bg b = false) (hfu : unb bs.length bg ≤ fuel + 1) (hlen : unb bs.length bg + od.length ≤ bs.length) :
    Calls Try.prog 52 #[.int .i64 b, .pointer (some ⟨N + 1 + 1, 0, none⟩), .pointer (some ⟨N, 0, none⟩), .pointer (some ⟨N + 1 + 1 + 1 + 1 + 1, 0, none⟩), .pointer (some ⟨N + 1 + 1 + 1 + 1, 0, none⟩)] w fun e w' => e = .returned (.tuple #[]) ∧ ∃ v', VSt w0 N bs.length (.slice ab bs.length cb) w' (visitM (succM bs) (fuel + 1) b (bg, od)).1 (visitM (succM bs) (fuel + 1) b (bg, od)).2 v' := by
  obtain ⟨i3, hi3, hz3, hz31, hz32⟩ := info_parts infoFI
  obtain ⟨b5, off5, cs, rfl, hcl5, ⟨vp, vi, ve, rfl, hp, hi, he0⟩, hc⟩ := hb.at b hbn
  obtain ⟨ae, ce, rfl, le⟩ := he0.out
  obtain ⟨ap, cp, rfl, _⟩ := hp.out
  obtain ⟨ai, ci, rfl, _⟩ := hi.out
  unfold longest at le
  have HSC : Hid (succM bs b = bs[b].edges.map fun e => e.block.toNat) := succM_at bs b hbn
  have hrk := hrange bs[b] (List.getElem_mem hbn)
  have hc2 := hc 2 (by simp)
  simp at hc2
  have HBEH : Hid (∀ b s, b < bs.length → s.1 b = false → Beh bs.length s (visitM (succM bs) fuel b s)) := fun b s => visit_beh (succM bs) hsc fuel b s
  have HTS : Hid (∀ t ∈ succM bs b, t < bs.length) := fun t ht => hsc b t ht
  clear hc hcl5 hp hi hb hrange hsc
  generalize bs[b].params.length = np at *
  generalize bs[b].instrs.length = ni at *
  generalize bs[b].edges = es at *
  have HE : Hid (SlOf w0 2 (REdg w0) (.slice ae es.length ce) es) := he0
  have HRK : Hid (∀ e ∈ es, 0 ≤ e.block ∧ e.block < (bs.length : Int)) := hrk
  have hb5 : b5 < N := by rw [← hS.base]; exact block_lt hc2
  have HC2 : Hid (∀ w', Below N w0 w' → w'.cell? ⟨b5, off5 + b * 3 + 2, none⟩ = some (.slice ae es.length ce)) := fun w' hh => (hh.cell (p := ⟨b5, off5 + b * 3 + 2, none⟩) hb5).trans hc2
  have a1 := hS.pr.cell (i := 0) (by omega)
  have a2 := hS.rr.cell (i := b) hbn
  have a3 := hS.rr.frozen b
  have hM := hS.mark b
  have HM : Hid (VSt w0 N bs.length (.slice (some ⟨b5, off5, none⟩) bs.length cb) (w.setCell ⟨N + 1, b, none⟩ (.bool true)) (upB bg b true) od v) := hM
  have hup := unb_up hbn hbg
  have HUP : Hid (unb bs.length (upB bg b true) ≤ fuel ∧ unb bs.length (upB bg b true) + od.length + 1 ≤ bs.length) := ⟨by omega, by omega⟩
  obtain ⟨W, hW⟩ : ∃ W, W = w.setCell ⟨N + 1, b, none⟩ (.bool true) := ⟨_, rfl⟩
  have HW : Hid (W = w.setCell ⟨N + 1, b, none⟩ (.bool true)) := hW
  rw [← hW] at HM
  have p1 := HM.out.pb.cell (i := 0) (by omega)
  have p2 := HC2.out W HM.out.low
  clear he0 hrk hM hW hup hS hfu hlen hbg hc2
  go_enter Try.func52, Try.ntmps52
  go_upto_region 1 with fail
  rw [← HW.out]
  clear a1 a2 a3 HW
  go_wp2_with fail
  go_loopw [17] (fun i wr => ∃ (j : Nat) (v1 : Value), j ≤ es.length ∧ i = .int .i64 j ∧ Hid (VSt w0 N bs.length (.slice (some ⟨b5, off5, none⟩) bs.length cb) wr (((es.take j).map fun e => e.block.toNat).foldl (stepV (succM bs) fuel) (upB bg b true, od)).1 (((es.take j).map fun e => e.block.toNat).foldl (stepV (succM bs) fuel) (upB bg b true, od)).2 v1)) (fun i _ => es.length - (intOf i).toNat)
  case atStart => exact ⟨0, v, Nat.zero_le _, rfl, HM⟩
  case round =>
    obtain ⟨j, v1, hj, rfl, HI⟩ := hrel
    have hbeh : Beh bs.length (upB bg b true, od) (((es.take j).map fun e => e.block.toNat).foldl (stepV (succM bs) fuel) (upB bg b true, od)) := by
      refine fold_beh (succM bs) fuel HBEH.out _ _ fun t ht => HTS.out t ?_
      rw [HSC.out]
      obtain ⟨e, he, rfl⟩ := List.mem_map.1 ht
      exact List.mem_map.2 ⟨e, List.mem_of_mem_take he, rfl⟩
    have HU : Hid (unb bs.length (((es.take j).map fun e => e.block.toNat).foldl (stepV (succM bs) fuel) (upB bg b true, od)).1 ≤ fuel ∧ unb bs.length (((es.take j).map fun e => e.block.toNat).foldl (stepV (succM bs) fuel) (upB bg b true, od)).1 + (((es.take j).map fun e => e.block.toNat).foldl (stepV (succM bs) fuel) (upB bg b true, od)).2.length + 1 ≤ bs.length) := by
      have h1 := unb_mono (n := bs.length) hbeh.1
      have h2 := hbeh.2
      simp only at h1 h2
      have h3 := HUP.out
      exact ⟨by omega, by omega⟩
    clear hbeh
    by_cases hjl : j < es.length
    · obtain ⟨b6, off6, cs, rfl, hcl6, ⟨va, rfl, hva⟩, hc⟩ := HE.out.at j hjl
      obtain ⟨aa, ca, rfl, _⟩ := hva.out
      have hb6 : ∀ o, w0.cell? ⟨b6, o, none⟩ ≠ none → b6 < N := fun o ho => by
        rw [← HI.out.base]
        cases hx : w0.cell? ⟨b6, o, none⟩ with
        | none => exact absurd hx ho
        | some y => exact block_lt hx
      have hb6' := hb6 _ (by rw [hc 0 (by simp)]; simp)
      have e0 := (HI.out.low.cell (p := ⟨b6, off6 + j * 2 + 0, none⟩) hb6').trans (hc 0 (by simp))
      have e1 := (HI.out.low.cell (p := ⟨b6, off6 + j * 2 + 1, none⟩) hb6').trans (hc 1 (by simp))
      simp at e0 e1
      have hrj := HRK.out es[j] (List.getElem_mem hjl)
      have HPJ : Hid (((es.take (j + 1)).map fun e => e.block.toNat).foldl (stepV (succM bs) fuel) (upB bg b true, od) = stepV (succM bs) fuel (((es.take j).map fun e => e.block.toNat).foldl (stepV (succM bs) fuel) (upB bg b true, od)) es[j].block.toNat) := by
        show _ = _
        rw [map_take_succ _ _ _ hjl, List.foldl_append]
        rfl
      clear hc hcl6 hva hb6 hb6'
      generalize es[j].args.length = na at *
      generalize es[j].block = t at *
      generalize ((es.take j).map fun e => e.block.toNat).foldl (stepV (succM bs) fuel) (upB bg b true, od) = s at *
      obtain ⟨bg1, od1⟩ := s
      have ht0 := hrj.1
      have ht1 := hrj.2
      have htn : t.toNat < bs.length := by omega
      have HS2 : Hid (VSt w0 N bs.length (.slice (some ⟨b5, off5, none⟩) bs.length cb) (wr.alloc (.cells #[.int .i64 t, .slice aa na ca] 47)) bg1 od1 v1) := HI.out.below ((Below.refl _ _).alloc (Nat.le_refl _) _)
      have r1 := HI.out.pr.cell (i := 0) (by omega)
      have r2 : wr.cell? ⟨N + 1, t.toNat, none⟩ = some (.bool (bg1 t.toNat)) := HI.out.rr.cell (i := t.toNat) htn
      have r3 := HI.out.pv.cell (i := 0) (by omega)
      have l1 := HI.out.pr.lt
      have l2 := HI.out.rr.lt
      have l3 := HI.out.pv.lt
      have L1 := old_cell (N + 1 + 1)
      have L2 := old_cell (N + 1)
      have L3 := old_cell (N + 1 + 1 + 1 + 1 + 1)
      clear hrj HI
      cases hbt : bg1 t.toNat
      · have HSTEP : Hid (stepV (succM bs) fuel (bg1, od1) t.toNat = visitM (succM bs) fuel t.toNat (bg1, od1)) := by show _ = _; unfold stepV; rw [if_neg (by simp [hbt])]
        have HC := IH.out t.toNat _ bg1 od1 v1 HS2.out htn hbt HU.out.1 (by have := HU.out.2; simp only at this; omega)
        rw [hbt] at r2
        have et : ((t.toNat : Nat) : Int) = t := by omega
        rw [et] at HC
        clear et hbt HU
        go_wp2_with fail
        refine HC.mono ?_
        rintro e w2 ⟨rfl, v2, hS2⟩
        have HR : Hid (VSt w0 N bs.length (.slice (some ⟨b5, off5, none⟩) bs.length cb) w2 (((es.take (j + 1)).map fun e => e.block.toNat).foldl (stepV (succM bs) fuel) (upB bg b true, od)).1 (((es.take (j + 1)).map fun e => e.block.toNat).foldl (stepV (succM bs) fuel) (upB bg b true, od)).2 v2) := by
          rw [HPJ.out, HSTEP.out]; exact hS2
        clear hS2 HC
        go_wp2
        go_roundw
        case rel => exact ⟨j + 1, v2, by omega, by go_num, HR⟩
        case measure => simp [intOf]; omega
      · have HR : Hid (VSt w0 N bs.length (.slice (some ⟨b5, off5, none⟩) bs.length cb) (wr.alloc (.cells #[.int .i64 t, .slice aa na ca] 47)) (((es.take (j + 1)).map fun e => e.block.toNat).foldl (stepV (succM bs) fuel) (upB bg b true, od)).1 (((es.take (j + 1)).map fun e => e.block.toNat).foldl (stepV (succM bs) fuel) (upB bg b true, od)).2 v1) := by
          rw [HPJ.out]
          unfold stepV
          rw [if_pos (by simp [hbt])]
          exact HS2
        rw [hbt] at r2
        clear hbt HU HS2
        go_wp2
        go_roundw
        case rel => exact ⟨j + 1, v1, by omega, by go_num, HR⟩
        case measure => simp [intOf]; omega
    · have hes : ((es.take j).map fun e => e.block.toNat).foldl (stepV (succM bs) fuel) (upB bg b true, od) = (succM bs b).foldl (stepV (succM bs) fuel) (upB bg b true, od) := by
        rw [List.take_of_length_le (by omega), HSC.out]
      have HV : Hid (visitM (succM bs) (fuel + 1) b (bg, od) = (((es.take j).map fun e => e.block.toNat).foldl (stepV (succM bs) fuel) (upB bg b true, od) |>.1, (((es.take j).map fun e => e.block.toNat).foldl (stepV (succM bs) fuel) (upB bg b true, od)).2 ++ [(b : Int)])) := by
        show _ = _
        rw [visitM_succ, hes]
      clear hes
      generalize ((es.take j).map fun e => e.block.toNat).foldl (stepV (succM bs) fuel) (upB bg b true, od) = s at *
      obtain ⟨bg1, od1⟩ := s
      have hlen := HU.out.2
      simp only at hlen
      have o1 := HI.out.po.cell (i := 0) (by omega)
      have oz := HI.out.po.frozen 0
      have ol := HI.out.po.lt
      have own := HI.out.own
      have oA := own.alloc (.cells #[.int .i64 b] 3)
      have nP : some (N + 1 + 1 + 1 + 1) ≠ v1.ownBlock := fun e => by have := HI.out.far _ e.symm; omega
      have hsz : N + 1 + 1 + 1 ≤ wr.heap.size := by omega
      have HI' : Hid (VSt w0 N bs.length (.slice (some ⟨b5, off5, none⟩) bs.length cb) wr bg1 od1 v1) := HI
      clear HI HU
      go_wp2_with (at_builtin; go_must (refine wpList_append_lies _ rfl _ _ 22 rfl (N + 1 + 1 + 1) 3 i3 (.int .i64 0) 1 8 Try.underlying22 hi3 hz3 hz31 hz32 rfl (by omega) v1 od1.length _ (by rfl) oA ⟨wr.heap.size, 0, none⟩ 1 1 [.int .i64 b] (by rfl) (by rfl) ?c1 ?c2 (by omega) ?c3 ?c4 ?c5 (wr.heap.size + 1) ?c6 ?_))
      rotate_left
      any_goals (first | (exact newsF rfl) | rfl | (show Value.oneCell' _ = true; simp [Value.oneCell']) | (intro u hu; simp at hu; subst hu; rfl) | (unfold maxLen; omega) | omega | (simp; omega) | (simp; rfl) | (simp; done))
      intro g cap wb hown hgrow hat hgl
      have hP := HI'.out.push (b := b) (H := wr.heap.size + 1) ((Below.refl _ _).alloc (Nat.le_refl _) (.cells #[.int .i64 b] 3)) hgrow hown hat (by omega)
      have HP : Hid (VSt w0 N bs.length (.slice (some ⟨b5, off5, none⟩) bs.length cb) (wb.setCell ⟨N + 1 + 1 + 1 + 1, 0, none⟩ (.slice (some ⟨g, 0, none⟩) (od1.length + 1) cap)) bg1 (od1 ++ [(b : Int)]) (.slice (some ⟨g, 0, none⟩) (od1.length + 1) cap)) := hP
      have LP := old_cell (N + 1 + 1 + 1 + 1)
      have lP' : N + 1 + 1 + 1 + 1 < (wr.alloc (.cells #[.int .i64 b] 3)).heap.size := by simp; omega
      have o1' := (hgrow.cell_far ⟨N + 1 + 1 + 1 + 1, 0, none⟩ lP' nP).trans ((LP _ _ _ ol).trans o1)
      have oz' := (hgrow.frozen_far ⟨N + 1 + 1 + 1 + 1, 0, none⟩ lP' nP).trans ((frozen?_alloc_cells _ _ _ _).trans oz)
      clear hP hown hgrow hat hgl oA own o1 oz LP
      go_wp2
      go_end0
      exact ⟨rfl, _, by rw [HV.out]; exact HP.out⟩

theorem visit_any (w0 : World) (N : Nat) (bs : List Blk) (ab : Option Addr) (cb : Nat) (hb : SlOf w0 3 (RBlk w0) (.slice ab bs.length cb) bs) (hn : bs.length ≤ 1000) (hsc : ∀ b t, t ∈ succM bs b → t < bs.length) (hrange : ∀ b ∈ bs, ∀ e ∈ b.edges, 0 ≤ e.block ∧ e.block < (bs.length : Int)) (fuel : Nat) : VisitOk w0 N bs ab cb fuel := by
  induction fuel with
  | zero =>
    intro b w bg od v hS hbn hbg hfu
    have := unb_pos hbn hbg
    omega
  | succ fuel ih => exact fun b w bg od v hS hbn hbg hfu hlen => visit_step w0 N bs ab cb hb hn hsc hrange fuel ih b w bg od v hS hbn hbg hfu hlen
end Go.Proofs.Ytengmgdnpojfjaa
