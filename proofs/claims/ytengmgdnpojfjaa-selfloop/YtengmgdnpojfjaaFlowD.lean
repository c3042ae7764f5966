/-
  The contract of 'idoms': the tree of dominators, where the rounds come to an end.
-/
import Derived.Test.YtengmgdnpojfjaaFlowC
import Derived.Deep.LoopGhost
namespace Go.Proofs.Ytengmgdnpojfjaa
open Go.RowKit
set_option linter.unusedVariables false

theorem nearest_is (Pr Pi Rr Ri n : Nat) (root : Int) (rank idom : Nat → Int) (preds : List (List Int)) (order : List Int) (ap ao : Option Addr) (cp co : Nat) (vd : Value) (b res : Int) (w : World) (hres : nearM root rank idom n (predL preds b.toNat) = res)
    (hp : SlOf w 1 (RRow w) (.slice ap n cp) preds) (hpl : preds.length = n) (ho : SlOf w 1 RInt (.slice ao n co) order) (hol : order.length = n) (hroot : order.getD 0 0 = root)
    (ht : TSt w Pr Pi Rr Ri n rank idom) (hk : KT n root rank idom) (hb0 : 0 ≤ b) (hb1 : b < n) (hin : ∀ p ∈ preds.getD b.toNat [], 0 ≤ p ∧ p < n) (hn : n ≤ 1000) :
    Calls Try.prog 55 #[.agg #[.slice ap n cp, .slice ao n co, vd], .int .i64 b, .slice (some ⟨Ri, 0, none⟩) n n, .func (.func 54) #[] #[.pointer (some ⟨Pr, 0, none⟩), .pointer (some ⟨Pi, 0, none⟩)]] w fun e w' => e = .returned (.int .i64 res) ∧ Below w.heap.size w w' := by
  rw [← hres]; exact nearest_any Pr Pi Rr Ri n root rank idom preds order ap ao cp co vd b w hp hpl ho hol hroot ht hk hb0 hb1 hin hn

set_option maxRecDepth 4000 in
set_option maxHeartbeats 4000000 in
theorem idoms_any (n K : Nat) (preds : List (List Int)) (order : List Int) (ap ao : Option Addr) (cp co : Nat) (vd : Value) (w : World)
    (hp : SlOf w 1 (RRow w) (.slice ap n cp) preds) (ho : SlOf w 1 RInt (.slice ao n co) order) (hco : n ≤ co) (hg : Gr n preds order) (hfix : FixAt preds order n K) (hn : n ≤ 1000) :
    Calls Try.prog 36 #[.agg #[.slice ap n cp, .slice ao n co, vd]] w fun e w' => e = .returned (.slice (some ⟨w.heap.size + 1 + 1 + 1, 0, none⟩) n n) ∧ w'.rowIs (w.heap.size + 1 + 1 + 1) 3 n (fun i => .int .i64 (roundsM (predL preds) order n K i)) ∧ Below w.heap.size w w' := by
  have mixed : Try.prog.follows .mixedOrders = true := by kernel_rfl
  have hmk := run_make_row' (P := Try.prog) 22 3 (.int .i64 0) 8 Try.underlying22 (by kernel_rfl) rfl .i64 .i64 n (by omega) (by omega)
  have hpos := hg.pos
  have HG : Hid (Gr n preds order) := hg
  have HF := fix_all hg hfix
  have HF : Hid (roundsM (predL preds) order n (K + 1) = roundsM (predL preds) order n K) := HF
  obtain ⟨bo, offo, rfl, hbo, _⟩ := ints_at ho 0 (by omega) (by rw [hg.olen]; omega)
  have HP : Hid (SlOf w 1 (RRow w) (.slice ap n cp) preds) := hp
  have HO : Hid (SlOf w 1 RInt (.slice (some ⟨bo, offo, none⟩) n co) order) := ho
  obtain ⟨W, hW⟩ : ∃ W, W = ((((w.alloc (.cells #[.slice ap n cp, .slice (some ⟨bo, offo, none⟩) n co, vd] 59)).alloc (.cells (madeCells #[.int .i64 0] n) 3)).alloc (.cells #[.slice (some ⟨w.heap.size + 1, 0, none⟩) n n] 22)).alloc (.cells (madeCells #[.int .i64 0] n) 3)).alloc (.cells #[.slice (some ⟨w.heap.size + 1 + 1 + 1, 0, none⟩) n n] 22) := ⟨_, rfl⟩
  have hz : W.heap.size = w.heap.size + 1 + 1 + 1 + 1 + 1 := by rw [hW]; simp
  have hbw : Below w.heap.size w W := by
    rw [hW]
    repeat (first | exact Below.refl _ _ | refine Below.alloc ?_ (by simp; try omega) _)
  have hst : ISt W w.heap.size (.slice ap n cp) (.slice (some ⟨bo, offo, none⟩) n co) vd n (fun _ => 0) (fun _ => 0) := by
    rw [hW]
    have r0 : (w.alloc (.cells #[.slice ap n cp, .slice (some ⟨bo, offo, none⟩) n co, vd] 59)).rowIs w.heap.size 59 3 (fun i => if i = 0 then .slice ap n cp else if i = 1 then .slice (some ⟨bo, offo, none⟩) n co else vd) :=
      World.rowIs_alloc _ _ _ _ fun i hi => by
        simp at hi
        match i, hi with | 0, _ => rfl | 1, _ => rfl | 2, _ => rfl
    obtain ⟨V1, hV1⟩ : ∃ V1, V1 = w.alloc (.cells #[.slice ap n cp, .slice (some ⟨bo, offo, none⟩) n co, vd] 59) := ⟨_, rfl⟩
    have z1 : V1.heap.size = w.heap.size + 1 := by rw [hV1]; simp
    rw [← hV1] at r0 ⊢
    have r1 := World.rowIs_made V1 (.int .i64 0) n 3
    rw [z1] at r1
    obtain ⟨V2, hV2⟩ : ∃ V2, V2 = V1.alloc (.cells (madeCells #[.int .i64 0] n) 3) := ⟨_, rfl⟩
    have z2 : V2.heap.size = w.heap.size + 1 + 1 := by rw [hV2]; simp [z1]
    replace r0 := r0.alloc (.cells (madeCells #[.int .i64 0] n) 3)
    rw [← hV2] at r0 r1 ⊢
    have r2 := World.rowIs_alloc V2 #[.slice (some ⟨w.heap.size + 1, 0, none⟩) n n] 22 (fun _ => .slice (some ⟨w.heap.size + 1, 0, none⟩) n n) (fun i hi => by simp at hi; subst hi; rfl)
    rw [z2] at r2
    obtain ⟨V3, hV3⟩ : ∃ V3, V3 = V2.alloc (.cells #[.slice (some ⟨w.heap.size + 1, 0, none⟩) n n] 22) := ⟨_, rfl⟩
    have z3 : V3.heap.size = w.heap.size + 1 + 1 + 1 := by rw [hV3]; simp [z2]
    replace r0 := r0.alloc (.cells #[.slice (some ⟨w.heap.size + 1, 0, none⟩) n n] 22)
    replace r1 := r1.alloc (.cells #[.slice (some ⟨w.heap.size + 1, 0, none⟩) n n] 22)
    rw [← hV3] at r0 r1 r2 ⊢
    have r3 := World.rowIs_made V3 (.int .i64 0) n 3
    rw [z3] at r3
    obtain ⟨V4, hV4⟩ : ∃ V4, V4 = V3.alloc (.cells (madeCells #[.int .i64 0] n) 3) := ⟨_, rfl⟩
    have z4 : V4.heap.size = w.heap.size + 1 + 1 + 1 + 1 := by rw [hV4]; simp [z3]
    replace r0 := r0.alloc (.cells (madeCells #[.int .i64 0] n) 3)
    replace r1 := r1.alloc (.cells (madeCells #[.int .i64 0] n) 3)
    replace r2 := r2.alloc (.cells (madeCells #[.int .i64 0] n) 3)
    rw [← hV4] at r0 r1 r2 r3 ⊢
    have r4 := World.rowIs_alloc V4 #[.slice (some ⟨w.heap.size + 1 + 1 + 1, 0, none⟩) n n] 22 (fun _ => .slice (some ⟨w.heap.size + 1 + 1 + 1, 0, none⟩) n n) (fun i hi => by simp at hi; subst hi; rfl)
    rw [z4] at r4
    exact ⟨r0.alloc _, r2.alloc _, r4, r1.alloc _, r3.alloc _⟩
  have HW : Hid (W = ((((w.alloc (.cells #[.slice ap n cp, .slice (some ⟨bo, offo, none⟩) n co, vd] 59)).alloc (.cells (madeCells #[.int .i64 0] n) 3)).alloc (.cells #[.slice (some ⟨w.heap.size + 1, 0, none⟩) n n] 22)).alloc (.cells (madeCells #[.int .i64 0] n) 3)).alloc (.cells #[.slice (some ⟨w.heap.size + 1 + 1 + 1, 0, none⟩) n n] 22)) := hW
  have HZ : Hid (W.heap.size = w.heap.size + 1 + 1 + 1 + 1 + 1) := hz
  have HI0 : Hid (ISt W w.heap.size (.slice ap n cp) (.slice (some ⟨bo, offo, none⟩) n co) vd n (fun _ => 0) (fun _ => 0)) := hst
  have HB : Hid (Below w.heap.size w W) := hbw
  clear hW hz hst hbw hp ho hg hfix
  go_enter Try.func36, Try.ntmps36
  go_upto_region 3 with fail
  rw [← HW.out]
  have g1 : W.cell? ⟨w.heap.size, 1, none⟩ = some (.slice (some ⟨bo, offo, none⟩) n co) := HI0.out.g.cell (i := 1) (by omega)
  go_wp2_with fail
  go_loopw [23] (fun i wr => ∃ k : Nat, k ≤ n ∧ i = .int .i64 k ∧ Hid (Below w.heap.size w wr ∧ ISt wr w.heap.size (.slice ap n cp) (.slice (some ⟨bo, offo, none⟩) n co) vd n (rkU order k) (idU order k))) (fun i _ => n - (intOf i).toNat)
  case atStart => exact ⟨0, Nat.zero_le _, rfl, HB.out, HI0.out⟩
  case round =>
    obtain ⟨k, hk, rfl, HS⟩ := hrel
    by_cases hlt : k < n
    · obtain ⟨_, _, he, _, hcl⟩ := ints_at HO.out k (by omega) (by rw [HG.out.olen]; omega)
      injection he with he
      injection he with he1 he2
      subst he1
      subst he2
      rw [Int.toNat_natCast] at hcl
      have c1 := (HS.out.1.cell (p := ⟨bo, offo + k, none⟩) hbo).trans hcl
      have hrg := HG.out.getD_rng k hlt
      have hS := HS.out.2.drew
      have s1 := hS.t.pr.cell (i := 0) (by omega)
      have s2 := hS.t.pi.cell (i := 0) (by omega)
      have z1 := hS.t.rr.frozen (order.getD k 0).toNat
      have z2 := hS.t.ri.frozen (order.getD k 0).toNat
      have s3 := hS.t.rr.cell (i := (order.getD k 0).toNat) (by omega)
      have s4 := hS.t.ri.cell (i := (order.getD k 0).toNat) (by omega)
      have s5 := (HS.out.2.rank (order.getD k 0).toNat k).t.ri.cell (i := (order.getD k 0).toNat) (by omega)
      have z5 := (HS.out.2.rank (order.getD k 0).toNat k).t.ri.frozen (order.getD k 0).toNat
      have s6 := (HS.out.2.rank (order.getD k 0).toNat k).t.pi.cell (i := 0) (by omega)
      have HN : Hid (Below w.heap.size w ((wr.drew.setCell ⟨w.heap.size + 1, (order.getD k 0).toNat, none⟩ (.int .i64 k)).setCell ⟨w.heap.size + 1 + 1 + 1, (order.getD k 0).toNat, none⟩ (.int .i64 (-1))) ∧ ISt ((wr.drew.setCell ⟨w.heap.size + 1, (order.getD k 0).toNat, none⟩ (.int .i64 k)).setCell ⟨w.heap.size + 1 + 1 + 1, (order.getD k 0).toNat, none⟩ (.int .i64 (-1))) w.heap.size (.slice ap n cp) (.slice (some ⟨bo, offo, none⟩) n co) vd n (rkU order (k + 1)) (idU order (k + 1))) := by
        refine ⟨(HS.out.1.drew.setCell (by simp; try omega) _).setCell (by simp; try omega) _, ?_⟩
        rw [rkU_succ, idU_succ]
        exact (hS.rank _ _).idom _ _
      clear hS HS hcl
      generalize order.getD k 0 = b at *
      have hb0 := hrg.1
      have hb1 := hrg.2
      have hbn : b.toNat < n := by omega
      clear hrg
      go_wp2_with fail
      go_region_o
      go_wp2
      go_roundw
      case rel => exact ⟨k + 1, by omega, by go_num, HN⟩
      case measure => simp [intOf]; omega
    · obtain rfl : n = k := by omega
      have HS' : Hid (Below w.heap.size w wr ∧ ISt wr w.heap.size (.slice ap n cp) (.slice (some ⟨bo, offo, none⟩) n co) vd n (rankM order) (roundsM (predL preds) order n 0)) := ⟨HS.out.1, HS.out.2.congr (fun i hi => (rkU_all HG.out i hi).1) (fun i hi => (rkU_all HG.out i hi).2)⟩
      clear HS HI0 HB HW g1 hmk
      go_wp2_with fail
      go_loopg [8] (K + 1) (fun m0 c w2 => ∃ (m t : Nat) (cb : Bool), m = m0 ∧ c = .bool cb ∧ Hid (Below w.heap.size w w2 ∧ ISt w2 w.heap.size (.slice ap n cp) (.slice (some ⟨bo, offo, none⟩) n co) vd n (rankM order) (roundsM (predL preds) order n t)) ∧ Hid ((cb = true → t ≤ K ∧ K + 1 - t ≤ m) ∧ (cb = false → roundsM (predL preds) order n t = roundsM (predL preds) order n K)))
      case atStart => exact ⟨K + 1, 0, true, rfl, rfl, HS', fun _ => ⟨Nat.zero_le _, Nat.le_refl _⟩, fun h => by simp at h⟩
      case round =>
        obtain ⟨m, t, cb, hmm, rfl, HQ, HM⟩ := hrel
        cases cb
        · have hrow := HQ.out.2.t.ri
          rw [HM.out.2 rfl] at hrow
          have s1 := HQ.out.2.t.pi.cell (i := 0) (by omega)
          have HR : Hid (_ ∧ _) := ⟨hrow, HQ.out.1⟩
          clear hrow
          go_wp2
          go_ret
          exact ⟨rfl, HR.out.1, HR.out.2⟩
        · have g1 : _ = some _ := HQ.out.2.g.cell (i := 1) (by omega)
          have hle : (1 : Int) ≤ n := by omega
          have hln : 1 ≤ n := by omega
          have hlc : 1 ≤ co := by omega
          have hmt := HM.out.1 rfl
          have hm0 : 0 < m := by omega
          have HMT : Hid (t ≤ K ∧ K + 1 - t ≤ m) := hmt
          have HJ0 : Hid (ChOk preds order n t 0 false) := ⟨fun _ => rfl, fun h => by simp at h⟩
          clear hmt HM
          by_cases hc1 : co = 1
          · subst hc1
            have hn1 : n - 1 ≤ 0 := by omega
            have hq : ¬ (0 : Int) < ((n - 1 : Nat) : Int) := by omega
            have HE' : Hid ((false = true → t + 1 ≤ K ∧ K + 1 - (t + 1) ≤ m - 1) ∧ (false = false → roundsM (predL preds) order n (t + 1) = roundsM (predL preds) order n K)) := ch_end HG.out HF.out hn1 HJ0.out HMT.out.1 HMT.out.2
            have HQ2 : Hid (Below w.heap.size w wr ∧ ISt wr w.heap.size (.slice ap n cp) (.slice (some ⟨bo, offo, none⟩) n 1) vd n (rankM order) (roundsM (predL preds) order n (t + 1))) := by
              refine ⟨HQ.out.1, ?_⟩
              rw [← idJ_end HG.out t 0 hn1]
              exact HQ.out.2
            go_wp2_with fail
            go_loopw [42, 8] (fun i c w3 => i = .int .i64 0 ∧ c = .bool false ∧ Hid (Below w.heap.size w w3 ∧ ISt w3 w.heap.size (.slice ap n cp) (.slice (some ⟨bo, offo, none⟩) n 1) vd n (rankM order) (roundsM (predL preds) order n (t + 1)))) (fun _ _ _ => 0)
            case atStart => exact ⟨rfl, rfl, HQ2⟩
            case round =>
              obtain ⟨rfl, rfl, HQ3⟩ := hrel
              go_wp2
              go_roundg (m - 1)
              case measure => omega
              case rel => exact ⟨m - 1, t + 1, false, rfl, rfl, HQ3, fun h => by simp at h, fun _ => HE'.out.2 (by first | trivial | rfl)⟩
          · go_wp2_with fail
            go_loopw [42, 8] (fun i c w3 => ∃ (j : Nat) (cb : Bool), j ≤ n - 1 ∧ i = .int .i64 j ∧ c = .bool cb ∧ Hid (Below w.heap.size w w3 ∧ ISt w3 w.heap.size (.slice ap n cp) (.slice (some ⟨bo, offo, none⟩) n co) vd n (rankM order) (idJ preds order n t j)) ∧ Hid (ChOk preds order n t j cb)) (fun i _ _ => n - 1 - (intOf i).toNat)
            case atStart => exact ⟨0, false, Nat.zero_le _, rfl, rfl, HQ, HJ0⟩
            case round =>
              obtain ⟨j, cb, hj, rfl, rfl, HQ3, HC⟩ := hrel
              by_cases hjl : j < n - 1
              · obtain ⟨_, _, he, _, hcl⟩ := ints_at HO.out ((j : Int) + 1) (by omega) (by rw [HG.out.olen]; omega)
                injection he with he
                injection he with he1 he2
                subst he1
                subst he2
                have ej : ((j : Int) + 1).toNat = j + 1 := by omega
                rw [ej] at hcl
                have c1 := (HQ3.out.1.cell (p := ⟨bo, offo + (j + 1), none⟩) hbo).trans hcl
                have c1' : wr.cell? ⟨bo, offo + 1 + j, none⟩ = some (.int .i64 (order.getD (j + 1) 0)) := by rw [← c1]; congr 2; omega
                have hjl' : j + 1 < n := by omega
                have hrg := HG.out.getD_rng (j + 1) hjl'
                have hkt := idJ_kt HG.out t j (by omega)
                have hp3 : SlOf wr 1 (RRow wr) (.slice ap n cp) preds := HP.out.below HQ3.out.1 (RRow.below HQ3.out.1)
                have ho3 : SlOf wr 1 RInt (.slice (some ⟨bo, offo, none⟩) n co) order := HO.out.below HQ3.out.1 fun _ _ h => h
                have HCALL := nearest_is _ _ _ _ n (order.getD 0 0) _ _ preds order ap (some ⟨bo, offo, none⟩) cp co vd (order.getD (j + 1) 0) (nextJ preds order n t j) wr rfl hp3 HG.out.len ho3 HG.out.olen rfl HQ3.out.2.t hkt hrg.1 hrg.2 (HG.out.inn _) hn
                have HKEEP : Hid (nextJ preds order n t j = idJ preds order n t j (order.getD (j + 1) 0).toNat → idJ preds order n t (j + 1) = idJ preds order n t j ∧ ChOk preds order n t (j + 1) cb) := fun h => ch_keep HG.out hjl' HC.out h
                have HNEW : Hid (nextJ preds order n t j ≠ idJ preds order n t j (order.getD (j + 1) 0).toNat → idJ preds order n t (j + 1) = upI (idJ preds order n t j) (order.getD (j + 1) 0).toNat (nextJ preds order n t j) ∧ ChOk preds order n t (j + 1) true) := fun h => ⟨idJ_succ HG.out t j hjl', ch_new HG.out hjl' h⟩
                clear hcl c1 hkt hp3 ho3 HC
                generalize nextJ preds order n t j = next at *
                generalize hidj : idJ preds order n t j = idj at *
                clear hidj
                generalize order.getD (j + 1) 0 = b at *
                have hb0 := hrg.1
                have hb1 := hrg.2
                have hbn : b.toNat < n := by omega
                have g0 : _ = some _ := HQ3.out.2.g.cell (i := 0) (by omega)
                have g1' : _ = some _ := HQ3.out.2.g.cell (i := 1) (by omega)
                have g2 : _ = some _ := HQ3.out.2.g.cell (i := 2) (by omega)
                have s1 := HQ3.out.2.t.pi.cell (i := 0) (by omega)
                clear hrg g1
                go_wp2_with fail
                refine HCALL.mono ?_
                clear HCALL
                rintro e w4 ⟨rfl, hb4⟩
                have hb4' : Below w.heap.size w w4 := HQ3.out.1.trans (hb4.mono HQ3.out.1.size)
                have hS4 := HQ3.out.2.below hb4
                have s2 := hS4.t.pi.cell (i := 0) (by omega)
                have s3 := hS4.t.ri.cell (i := b.toNat) hbn
                have z3 := hS4.t.ri.frozen b.toNat
                have HQ4 : Hid (_ ∧ _) := ⟨hb4', hS4⟩
                clear hb4' hS4 hb4 HQ3 g0 g1' g2 s1
                by_cases hch : next = idj b.toNat
                · have q1 : (next != idj b.toNat) = false := by simp [hch]
                  have HR := HKEEP.out hch
                  clear HKEEP HNEW hch
                  go_wp2
                  go_roundw
                  case rel =>
                    refine ⟨j + 1, cb, by omega, by go_num, rfl, ?_, HR.2⟩
                    rw [HR.1]
                    exact HQ4
                  case measure => simp [intOf]; omega
                · have q1 : (next != idj b.toNat) = true := by simp [hch]
                  have HR := HNEW.out hch
                  clear HKEEP HNEW hch
                  go_wp2
                  go_roundw
                  case rel =>
                    refine ⟨j + 1, true, by omega, by go_num, rfl, ?_, HR.2⟩
                    rw [HR.1]
                    exact ⟨HQ4.out.1.setCell (by simp; try omega) _, HQ4.out.2.idom _ _⟩
                  case measure => simp [intOf]; omega
              · have HE' : Hid ((cb = true → t + 1 ≤ K ∧ K + 1 - (t + 1) ≤ m - 1) ∧ (cb = false → roundsM (predL preds) order n (t + 1) = roundsM (predL preds) order n K)) := ch_end HG.out HF.out (by omega) HC.out HMT.out.1 HMT.out.2
                have HQ2 : Hid (Below w.heap.size w wr ∧ ISt wr w.heap.size (.slice ap n cp) (.slice (some ⟨bo, offo, none⟩) n co) vd n (rankM order) (roundsM (predL preds) order n (t + 1))) := by
                  refine ⟨HQ3.out.1, ?_⟩
                  rw [← idJ_end HG.out t j (by omega)]
                  exact HQ3.out.2
                clear HQ3 HC
                go_wp2
                go_roundg (m - 1)
                case measure => omega
                case rel => exact ⟨m - 1, t + 1, cb, rfl, rfl, HQ2, HE'⟩
end Go.Proofs.Ytengmgdnpojfjaa
