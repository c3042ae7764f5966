/-
  The contracts of the reference's 'neededAt' and 'neededBehind' (P3.1).
-/
import Derived.Test.YtfelpjgagglhiaaY1
import Derived.Test.YtfelpjgagglhiaaC7
namespace Go.Proofs.Ytfelpjgagglhiaa
open Go.RowKit
set_option linter.unusedVariables false

theorem CmS.below {w0 w w' : World} {N n : Nat} {vv vb : Value} {R : Nat → Bool} (h : CmS w0 N n vv vb R w) (hb : Below w.heap.size w w') (hN : N ≤ w.heap.size) : CmS w0 N n vv vb R w' :=
  ⟨h.bx.of_block (hb.block _ h.bx.lt), h.row.of_block (hb.block _ h.row.lt), h.low.trans (hb.mono hN)⟩
def UsedP (bs : List Blk) (b v : Nat) : Prop := (v : Int) ∈ insU (blkA bs b).instrs ∨ (v : Int) ∈ argsU (blkA bs b).edges
/-- Whatever asks for a value at a block is answered there. -/
def ShN (bs : List Blk) (v : Nat) (R : Nat → Bool) (b : Nat) : Prop := ¬ (v : Int) ∈ makersOf (blkA bs b) → (UsedP bs b v ∨ ∃ t ∈ succM bs b, R t = true) → R b = true
def SwN (bs : List Blk) (n v : Nat) (R0 R : Nat → Bool) (ch : Bool) (b : Nat) : Prop :=
  (∀ t, t < n → R t = true → NeedIn bs t v) ∧ (ch = false → R = R0 ∧ ∀ c, c < b → ShN bs v R c) ∧ (ch = true → unfB n R < unfB n R0)
theorem shN_end {bs : List Blk} {v : Nat} {R : Nat → Bool} (hrg : ∀ b t, t ∈ succM bs b → t < bs.length) (h1 : ∀ t, t < bs.length → R t = true → NeedIn bs t v) (h2 : ∀ c, c < bs.length → ShN bs v R c) (b : Nat) (hb : b < bs.length) : R b = true ↔ NeedIn bs b v := by
  refine ⟨h1 b hb, fun h => ?_⟩
  induction h with
  | use b v hb hm hu => exact h2 b hb hm (Or.inl hu)
  | edge b v t hb hm ht h ih => exact h2 b hb hm (Or.inr ⟨t, ht, ih h1 h2 (hrg b t ht)⟩)
theorem any_take {α : Type} {f : α → Bool} {l : List α} {k : Nat} (h : k < l.length) : (l.take (k + 1)).any f = ((l.take k).any f || f l[k]) := by
  rw [List.take_succ_eq_append_getElem h, List.any_append]
  simp
theorem any_succ {bs : List Blk} {b : Nat} (hb : b < bs.length) {R : Nat → Bool} (h : (bs[b].edges.any fun e => R e.block.toNat) = true) : ∃ t ∈ succM bs b, R t = true := by
  obtain ⟨e, he, hr⟩ := List.any_eq_true.1 h
  exact ⟨e.block.toNat, by rw [succM_at _ _ hb]; exact List.mem_map.2 ⟨e, he, rfl⟩, hr⟩
theorem succ_any {bs : List Blk} {b : Nat} (hb : b < bs.length) {R : Nat → Bool} (h : ∃ t ∈ succM bs b, R t = true) : (bs[b].edges.any fun e => R e.block.toNat) = true := by
  obtain ⟨t, ht, hr⟩ := h
  rw [succM_at _ _ hb] at ht
  obtain ⟨e, he, rfl⟩ := List.mem_map.1 ht
  exact List.any_eq_true.2 ⟨e, he, hr⟩

set_option maxRecDepth 4000 in
set_option maxHeartbeats 8000000 in
theorem neededAt_any (bs : List Blk) (n nv v : Nat) (av ab : Option Addr) (cv cb : Nat) (w : World) (hbl : bs.length = n) (hs : SlOf w 3 (RBlk w) (.slice ab n cb) bs) (hr : ∀ b ∈ bs, ∀ e ∈ b.edges, 0 ≤ e.block ∧ e.block < (n : Int)) (hn : n ≤ 1000) :
    Calls Try.prog 15 #[.agg #[.slice av nv cv, .slice ab n cb], .int .i64 (v : Int)] w fun e w' => ∃ R : Nat → Bool, e = .returned (.slice (some ⟨w.heap.size + 1, 0, none⟩) n n) ∧ w'.rowIs (w.heap.size + 1) 4 n (fun i => .bool (R i)) ∧ (∀ b, b < n → (R b = true ↔ NeedIn bs b v)) ∧ Below w.heap.size w w' := by
  have hmk := run_make_row' (P := Try.prog) 47 4 (.bool false) 1 Try.underlying47 (by kernel_rfl) rfl .i64 .i64 n (by omega) (by omega)
  obtain ⟨N, hN⟩ : ∃ N, w.heap.size = N := ⟨_, rfl⟩
  obtain ⟨W, hW⟩ : ∃ W, W = (w.alloc (.cells #[.slice av nv cv, .slice ab n cb] 25)).alloc (.cells (madeCells #[.bool false] n) 4) := ⟨_, rfl⟩
  have hst : CmS w N n (.slice av nv cv) (.slice ab n cb) (fun _ => false) W := by
    rw [hW]
    have r0 : (w.alloc (.cells #[.slice av nv cv, .slice ab n cb] 25)).rowIs w.heap.size 25 2 (fun q => if q = 0 then .slice av nv cv else .slice ab n cb) :=
      World.rowIs_alloc _ _ _ _ fun i hi => by
        simp at hi
        match i, hi with | 0, _ => rfl | 1, _ => rfl
    have r1 := World.rowIs_made (w.alloc (.cells #[.slice av nv cv, .slice ab n cb] 25)) (.bool false) n 4
    have e : (w.alloc (.cells #[.slice av nv cv, .slice ab n cb] 25)).heap.size = N + 1 := by simp [hN]
    rw [e] at r1
    rw [hN] at r0
    exact ⟨r0.alloc _, r1, ((Below.refl _ _).alloc (by omega) _).alloc (by rw [e]; omega) _⟩
  have HS1 : Hid (CmS w N n (.slice av nv cv) (.slice ab n cb) (fun _ => false) W) := hst
  have lN : N + 1 < W.heap.size := hst.row.lt
  have HW : Hid (W = (w.alloc (.cells #[.slice av nv cv, .slice ab n cb] 25)).alloc (.cells (madeCells #[.bool false] n) 4)) := hW
  have HN : Hid (w.heap.size = N) := hN
  have HB : Hid (SlOf w 3 (RBlk w) (.slice ab n cb) bs) := hs
  have HR : Hid (∀ b ∈ bs, ∀ e ∈ b.edges, 0 ≤ e.block ∧ e.block < (n : Int)) := hr
  have HL : Hid (bs.length = n) := hbl
  have HRG : Hid (∀ b t, t ∈ succM bs b → t < bs.length) := fun b t ht => by
    have hb := succ_in ht
    rw [succM_at _ _ hb] at ht
    obtain ⟨e, he, rfl⟩ := List.mem_map.1 ht
    have := hr _ (List.getElem_mem hb) e he
    omega
  have f1 : W.cell? ⟨N, 1, none⟩ = some (.slice ab n cb) := hst.bx.cell (i := 1) (by omega)
  clear hW hst hN hs hr hbl
  go_enter Try.func15, Try.ntmps15
  go_upto_region 2 with fail
  rw [← HW.out, HN.out]
  go_wp2_with fail
  clear hmk lN f1 HW
  go_loopw [6] (fun c wr => ∃ (R : Nat → Bool) (ch : Bool), c = .bool ch ∧ Hid (CmS w N n (.slice av nv cv) (.slice ab n cb) R wr ∧ (∀ t, t < n → R t = true → NeedIn bs t v) ∧ (ch = false → ∀ b, b < n → ShN bs v R b))) (fun c wr => 2 * unfB n (rowB wr (N + 1)) + isTr c)
  case atStart => exact ⟨_, true, rfl, HS1.out, fun t ht h => (by cases h), fun h => by cases h⟩
  case round =>
    clear HS1
    obtain ⟨R0, ch0, rfl, HI0⟩ := hrel
    cases ch0
    case false =>
      have HE : Hid (wr.rowIs (N + 1) 4 n (fun i => .bool (R0 i)) ∧ (∀ b, b < n → (R0 b = true ↔ NeedIn bs b v)) ∧ Below N w wr) := ⟨HI0.out.1.row, fun b hb => shN_end HRG.out (fun t ht => HI0.out.2.1 t (by rw [← HL.out]; exact ht)) (fun c hc => HI0.out.2.2 rfl c (by rw [← HL.out]; exact hc)) b (by rw [HL.out]; exact hb), HI0.out.1.low⟩
      clear HI0
      go_wp2
      go_ret
      exact ⟨R0, by rw [HN.out]; rfl, by rw [HN.out]; exact HE.out⟩
    case true =>
      obtain ⟨wr0, hwr0⟩ : ∃ wr0, wr0 = wr := ⟨_, rfl⟩
      have HU0 : Hid (unfB n (rowB wr0 (N + 1)) = unfB n R0) := by rw [hwr0]; exact HI0.out.1.cnt
      have HWR : Hid (wr0 = wr) := hwr0
      clear hwr0
      go_wp2
      go_loopw [6, 7] (fun c i wr => ∃ (R : Nat → Bool) (ch : Bool) (b : Nat), c = .bool ch ∧ i = .int .i64 b ∧ b ≤ n ∧ Hid (CmS w N n (.slice av nv cv) (.slice ab n cb) R wr ∧ SwN bs n v R0 R ch b)) (fun _ i _ => n - (intOf i).toNat)
      case atStart => exact ⟨R0, false, 0, rfl, rfl, Nat.zero_le _, HI0.out.1, HI0.out.2.1, fun _ => ⟨rfl, fun c hc => by omega⟩, fun h => by cases h⟩
      case round =>
        clear HI0
        obtain ⟨R, ch, b, rfl, rfl, hb, HI⟩ := hrel
        have f1 : wr.cell? ⟨N, 1, none⟩ = some (.slice ab n cb) := HI.out.1.bx.cell (i := 1) (by omega)
        by_cases hlt : b < n
        · have hbn : b < bs.length := by rw [HL.out]; exact hlt
          obtain ⟨b5, off5, cs, rfl, hcl5, ⟨vp, vi, ve, rfl, hp, hi, he0⟩, hc⟩ := HB.out.at b hbn
          obtain ⟨ae, ce, rfl, le⟩ := he0.out
          obtain ⟨ap, cp, rfl, _⟩ := hp.out
          obtain ⟨ai, ci, rfl, _⟩ := hi.out
          unfold longest at le
          have hlow := HI.out.1.low
          have c0 := hc 0 (by simp)
          have l5 : b5 < N := by have := block_lt c0; have := HN.out; omega
          have e0 := (hlow.cell (p := ⟨b5, off5 + b * 3 + 0, none⟩) l5).trans c0
          have e1 := (hlow.cell (p := ⟨b5, off5 + b * 3 + 1, none⟩) l5).trans (hc 1 (by simp))
          have e2 := (hlow.cell (p := ⟨b5, off5 + b * 3 + 2, none⟩) l5).trans (hc 2 (by simp))
          simp at e0 e1 e2
          have hbA : blkA bs b = bs[b] := blkA_at hbn
          have HBA : Hid (blkA bs b = bs[b]) := hbA
          have HRE : Hid (∀ e ∈ bs[b].edges, 0 ≤ e.block ∧ e.block < (n : Int)) := HR.out _ (List.getElem_mem hbn)
          have HPI : Hid (SlOf w 1 RInt (.slice ap bs[b].params.length cp) bs[b].params ∧ SlOf w 3 (RIns w) (.slice ai bs[b].instrs.length ci) bs[b].instrs ∧ SlOf w 2 (REdg w) (.slice ae bs[b].edges.length ce) bs[b].edges) := ⟨hp, hi, he0⟩
          have HANY : Hid (((bs[b].edges.any fun e => R e.block.toNat) = true) ↔ ∃ t ∈ succM bs b, R t = true) := ⟨any_succ hbn, succ_any hbn⟩
          have rb := HI.out.1.row.cell hlt
          obtain ⟨rv, hrv⟩ : ∃ rv, R b = rv := ⟨_, rfl⟩
          have HRV : Hid (R b = rv) := hrv
          rw [hrv] at rb
          have hbi : (b : Int) < (n : Int) := by omega
          have HMK : Hid (makersOf bs[b] = bs[b].params ++ insM bs[b].instrs) := rfl
          clear hc hcl5 hp hi he0 c0 hrv hbA
          generalize bs[b] = blk at *
          obtain ⟨np, hnp⟩ : ∃ np, blk.params.length = np := ⟨_, rfl⟩
          obtain ⟨ni, hni⟩ : ∃ ni, blk.instrs.length = ni := ⟨_, rfl⟩
          obtain ⟨ne, hne⟩ : ∃ ne, blk.edges.length = ne := ⟨_, rfl⟩
          rw [hnp] at e0
          rw [hni] at e1
          rw [hne] at e2 le
          have HLN : Hid (blk.params.length = np ∧ blk.instrs.length = ni ∧ blk.edges.length = ne) := ⟨hnp, hni, hne⟩
          rw [hnp, hni, hne] at HPI
          clear hnp hni hne
          obtain ⟨P, hP⟩ : ∃ P, wr.heap.size = P := ⟨_, rfl⟩
          obtain ⟨W5, hW5⟩ : ∃ W5, W5 = wr.alloc (.cells #[.slice ap np cp, .slice ai ni ci, .slice ae ne ce] 60) := ⟨_, rfl⟩
          have hb5 : Below wr.heap.size wr W5 := by rw [hW5]; exact (Below.refl _ _).alloc (Nat.le_refl _) _
          have t5 := top_at wr #[.slice ap np cp, .slice ai ni ci, .slice ae ne ce] 60
          rw [← hW5, hP] at t5
          have hNle : N ≤ wr.heap.size := Nat.le_of_lt (Nat.lt_of_succ_lt HI.out.1.row.lt)
          have HC5 : Hid (CmS w N n (.slice av nv cv) (.slice (some ⟨b5, off5, none⟩) n cb) R W5) := HI.out.1.below hb5 hNle
          have HNP : Hid (N + 1 < P) := by rw [← hP]; exact HI.out.1.row.lt
          have HY5 : Hid (∀ w', Below W5.heap.size W5 w' → w'.cell? ⟨P, 0, none⟩ = some (.slice ap np cp) ∧ w'.cell? ⟨P, 1, none⟩ = some (.slice ai ni ci) ∧ w'.cell? ⟨P, 2, none⟩ = some (.slice ae ne ce) ∧ P < w'.heap.size) := fun w' hh => ⟨(hh.cell (p := ⟨P, 0, none⟩) (block_lt (t5 0))).trans (t5 0), (hh.cell (p := ⟨P, 1, none⟩) (block_lt (t5 0))).trans (t5 1), (hh.cell (p := ⟨P, 2, none⟩) (block_lt (t5 0))).trans (t5 2), Nat.lt_of_lt_of_le (block_lt (t5 0)) hh.size⟩
          have HW5 : Hid (W5 = wr.alloc (.cells #[.slice ap np cp, .slice ai ni ci, .slice ae ne ce] 60)) := hW5
          have HPP : Hid (wr.heap.size = P) := hP
          have HSW : Hid (SwN bs n v R0 R ch b) := HI.out.2
          have hPw : N ≤ W5.heap.size := Nat.le_trans hNle hb5.size
          have lb5 : b5 < wr.heap.size := Nat.lt_of_lt_of_le l5 hNle
          clear hW5 hP hb5 t5 hlow HI
          go_upto_region 9 with fail
          rw [← HW5.out, HPP.out]
          clear HW5 HPP e0 e1 e2 f1 rb
          obtain ⟨y0, y1, y2, lP⟩ := HY5.out _ (Below.refl _ _)
          have rb := HC5.out.row.cell hlt
          rw [HRV.out] at rb
          cases rv
          case true =>
            have HX : Hid (CmS w N n (.slice av nv cv) (.slice (some ⟨b5, off5, none⟩) n cb) R W5 ∧ SwN bs n v R0 R ch (b + 1)) := by
              refine ⟨HC5.out, HSW.out.1, fun h => ⟨(HSW.out.2.1 h).1, fun c hc => ?_⟩, HSW.out.2.2⟩
              by_cases e : c = b
              · subst e
                exact fun _ _ => HRV.out
              · exact (HSW.out.2.1 h).2 c (by omega)
            clear HSW HC5
            go_wp2
            go_roundw
            case rel => exact ⟨R, ch, b + 1, rfl, by go_num, by omega, HX⟩
            case measure => simp [intOf]; omega
          case false =>
            obtain ⟨mb, hmb⟩ : ∃ mb, decide ((v : Int) ∈ blk.params ++ insM blk.instrs) = mb := ⟨_, rfl⟩
            have HMB : Hid (decide ((v : Int) ∈ blk.params ++ insM blk.instrs) = mb) := hmb
            have hW5b : Below w.heap.size w W5 := by rw [HN.out]; exact HC5.out.low
            have HCA := madeIn_is blk.params blk.instrs np ni ne cp ci ce ap ai ae (v : Int) mb hmb W5 HLN.out.1 HLN.out.2.1 (HPI.out.1.below hW5b fun _ _ h => h) (HPI.out.2.1.below hW5b (RIns.below hW5b))
            clear hmb hW5b
            go_wp2_with fail
            refine HCA.mono ?_
            clear HCA
            rintro e w6 ⟨rfl, hb6⟩
            have HC6 : Hid (CmS w N n (.slice av nv cv) (.slice (some ⟨b5, off5, none⟩) n cb) R w6) := HC5.out.below hb6 hPw
            have HB6 : Hid (Below W5.heap.size W5 w6) := hb6
            clear y0 y1 y2 lP rb hb6
            cases mb
            case true =>
              have HX : Hid (CmS w N n (.slice av nv cv) (.slice (some ⟨b5, off5, none⟩) n cb) R w6 ∧ SwN bs n v R0 R ch (b + 1)) := by
                refine ⟨HC6.out, HSW.out.1, fun h => ⟨(HSW.out.2.1 h).1, fun c hc => ?_⟩, HSW.out.2.2⟩
                by_cases e : c = b
                · subst e
                  intro hm
                  rw [HBA.out, HMK.out] at hm
                  exact absurd (of_decide_eq_true HMB.out) hm
                · exact (HSW.out.2.1 h).2 c (by omega)
              clear HSW HC5 HC6
              go_wp2
              go_roundw
              case rel => exact ⟨R, ch, b + 1, rfl, by go_num, by omega, HX⟩
              case measure => simp [intOf]; omega
            case false =>
              obtain ⟨y0, y1, y2, lP⟩ := HY5.out _ HB6.out
              obtain ⟨ub, hub⟩ : ∃ ub, decide ((v : Int) ∈ insU blk.instrs ∨ (v : Int) ∈ argsU blk.edges) = ub := ⟨_, rfl⟩
              have HUB : Hid (decide ((v : Int) ∈ insU blk.instrs ∨ (v : Int) ∈ argsU blk.edges) = ub) := hub
              have hW6b : Below w.heap.size w w6 := by rw [HN.out]; exact HC6.out.low
              have HCA := usedIn_is blk.instrs blk.edges np ni ne cp ci ce ap ai ae (v : Int) ub hub w6 HLN.out.2.1 HLN.out.2.2 (HPI.out.2.1.below hW6b (RIns.below hW6b)) (HPI.out.2.2.below hW6b (REdg.below hW6b))
              clear hub hW6b
              go_wp2_with fail
              refine HCA.mono ?_
              clear HCA
              rintro e w7 ⟨rfl, hb7⟩
              have HB7 : Hid (Below W5.heap.size W5 w7) := HB6.out.trans (hb7.mono HB6.out.size)
              have HC7 : Hid (CmS w N n (.slice av nv cv) (.slice (some ⟨b5, off5, none⟩) n cb) R w7) := HC5.out.below HB7.out hPw
              clear y0 y1 y2 lP hb7 HC6 HC5
              obtain ⟨y0, y1, y2, lP⟩ := HY5.out _ HB7.out
              go_wp2_with fail
              go_loopw [9, 10] (fun c i wz => ∃ (k : Nat) (nw : Bool), c = .bool nw ∧ i = .int .i64 k ∧ k ≤ ne ∧ wz = w7 ∧ Hid (nw = (ub || (blk.edges.take k).any fun e => R e.block.toNat))) (fun _ i _ => ne - (intOf i).toNat)
              case atStart => exact ⟨0, ub, rfl, rfl, Nat.zero_le _, rfl, by show _ = _; simp⟩
              case round =>
                obtain ⟨k, nw, rfl, rfl, hk, hwz, HK⟩ := hrel
                subst hwz
                by_cases hltk : k < ne
                · have hke : k < blk.edges.length := by rw [HLN.out.2.2]; exact hltk
                  have hkn : (k : Int) < (ne : Int) := by omega
                  cases nw
                  case true =>
                    have HK2 : Hid (true = (ub || (blk.edges.take (k + 1)).any fun e => R e.block.toNat)) := by
                      show _ = _
                      rw [any_take hke, ← Bool.or_assoc, ← HK.out]
                      rfl
                    clear HK
                    go_wp2
                    go_roundw
                    case rel => exact ⟨k + 1, true, rfl, by go_num, by omega, (by first | rfl | trivial), HK2⟩
                    case measure => simp [intOf]; omega
                  case false =>
                    have hWb : Below w.heap.size w wr := by rw [HN.out]; exact HC7.out.low
                    obtain ⟨b9, off9, aa, ca, rfl, lb9, i0, i1, ha⟩ := edg_aL (HPI.out.2.2.below hWb (REdg.below hWb)) k hke
                    obtain ⟨t0, t1⟩ := HRE.out _ (List.getElem_mem hke)
                    have HK2 : Hid ((R (blk.edges[k]'hke).block.toNat) = (ub || (blk.edges.take (k + 1)).any fun e => R e.block.toNat)) := by
                      show _ = _
                      rw [any_take hke, ← Bool.or_assoc, ← HK.out]
                      simp
                    clear ha i1 hWb HK
                    generalize (blk.edges[k]'hke).block = tb at *
                    obtain ⟨t, ht⟩ : ∃ t : Nat, tb = (t : Int) := ⟨tb.toNat, by omega⟩
                    subst ht
                    rw [Int.toNat_natCast] at HK2
                    have htn : t < n := by omega
                    have rt := HC7.out.row.cell htn
                    generalize R t = rtv at *
                    go_wp2
                    go_roundw
                    case rel => exact ⟨k + 1, rtv, rfl, by go_num, by omega, (by first | rfl | trivial), HK2⟩
                    case measure => simp [intOf]; omega
                · have HK2 : Hid (nw = (ub || blk.edges.any fun e => R e.block.toNat)) := by
                    have h := HK.out
                    rw [List.take_of_length_le (by rw [HLN.out.2.2]; omega)] at h
                    exact h
                  clear HK
                  cases nw
                  case false =>
                    have HX : Hid (CmS w N n (.slice av nv cv) (.slice (some ⟨b5, off5, none⟩) n cb) R wr ∧ SwN bs n v R0 R ch (b + 1)) := by
                      refine ⟨HC7.out, HSW.out.1, fun h => ⟨(HSW.out.2.1 h).1, fun c hc => ?_⟩, HSW.out.2.2⟩
                      by_cases e : c = b
                      · subst e
                        intro _ hu
                        have h2 := HK2.out
                        rw [eq_comm, Bool.or_eq_false_iff] at h2
                        rcases hu with hu | hu
                        · unfold UsedP at hu
                          rw [HBA.out] at hu
                          have h3 := HUB.out.trans h2.1
                          exact absurd hu (of_decide_eq_false h3)
                        · have h3 := HANY.out.2 hu
                          rw [h2.2] at h3
                          cases h3
                      · exact (HSW.out.2.1 h).2 c (by omega)
                    clear HSW HC7
                    go_wp2
                    go_roundw
                    case rel => exact ⟨R, ch, b + 1, rfl, by go_num, by omega, HX⟩
                    case measure => simp [intOf]; omega
                  case true =>
                    have rb := HC7.out.row.cell hlt
                    have zb := HC7.out.row.frozen b
                    have HX : Hid (CmS w N n (.slice av nv cv) (.slice (some ⟨b5, off5, none⟩) n cb) (upB R b true) (wr.setCell ⟨N + 1, b, none⟩ (.bool true)) ∧ SwN bs n v R0 (upB R b true) true (b + 1)) := by
                      have hNI : NeedIn bs b v := by
                        have hm : ¬ (v : Int) ∈ makersOf (blkA bs b) := by
                          rw [HBA.out, HMK.out]
                          exact of_decide_eq_false HMB.out
                        have hbl : b < bs.length := by rw [HL.out]; exact hlt
                        have h2 := HK2.out.symm
                        rw [Bool.or_eq_true] at h2
                        rcases h2 with h2 | h2
                        · rw [← HUB.out] at h2
                          exact .use b v hbl hm (by rw [HBA.out]; exact of_decide_eq_true h2)
                        · obtain ⟨t, ht, hr⟩ := HANY.out.1 h2
                          exact .edge b v t hbl hm ht (HSW.out.1 t (by rw [← HL.out]; exact HRG.out b t ht) hr)
                      refine ⟨HC7.out.up b true, fun t ht h => ?_, fun h => absurd h (by simp), fun _ => ?_⟩
                      · unfold upB at h
                        by_cases e : t = b
                        · rw [e]; exact hNI
                        · rw [if_neg e] at h
                          exact HSW.out.1 t ht h
                      · have h1 := unfB_up (n := n) hlt HRV.out
                        cases hch : ch
                        · rw [(HSW.out.2.1 hch).1] at h1 ⊢
                          exact h1
                        · have := HSW.out.2.2 hch
                          omega
                    clear HSW HC7
                    go_wp2
                    go_roundw
                    case rel => exact ⟨upB R b true, true, b + 1, rfl, by go_num, by omega, HX⟩
                    case measure => simp [intOf]; omega
        · have hbe : b = n := by omega
          have HX : Hid (CmS w N n (.slice av nv cv) (.slice ab n cb) R wr ∧ (∀ t, t < n → R t = true → NeedIn bs t v) ∧ (ch = false → ∀ b, b < n → ShN bs v R b)) := ⟨HI.out.1, HI.out.2.1, fun h b' hb' => (HI.out.2.2.1 h).2 b' (by omega)⟩
          have HM : Hid (2 * unfB n (rowB wr (N + 1)) + isTr (.bool ch) < 2 * unfB n (rowB wr0 (N + 1)) + 1) := by
            show _ < _
            rw [HI.out.1.cnt, HU0.out]
            cases hch : ch
            · rw [(HI.out.2.2.1 hch).1]; simp [isTr]
            · have := HI.out.2.2.2 hch; simp [isTr]; omega
          clear HI hbe
          go_wp2
          go_roundw
          case rel => exact ⟨R, ch, rfl, HX⟩
          case measure =>
            have := HM.out
            rw [HWR.out] at this
            exact this

set_option maxHeartbeats 8000000 in
theorem neededBehind_is (bs : List Blk) (n nv b g : Nat) (v : Int) (R : Nat → Bool) (r : Bool) (av ab : Option Addr) (cv cb : Nat) (w : World) (hbl : bs.length = n) (hb : b < bs.length) (hr : ((bs[b].edges.any fun e => R e.block.toNat) || decide (v ∈ argsU bs[b].edges)) = r) (hs : SlOf w 3 (RBlk w) (.slice ab n cb) bs) (hrow : w.rowIs g 4 n (fun i => .bool (R i))) (hrg : ∀ e ∈ bs[b].edges, 0 ≤ e.block ∧ e.block < (n : Int)) :
    Calls Try.prog 16 #[.agg #[.slice av nv cv, .slice ab n cb], .slice (some ⟨g, 0, none⟩) n n, .int .i64 (b : Int), .int .i64 v] w fun e w' => e = .returned (.bool r) ∧ Below w.heap.size w w' := by
  obtain ⟨b5, off5, cs, rfl, hcl5, ⟨vp, vi, ve, rfl, hp, hi, he0⟩, hc⟩ := hs.at b hb
  obtain ⟨ae, ce, rfl, le⟩ := he0.out
  obtain ⟨ap, cp, rfl, _⟩ := hp.out
  obtain ⟨ai, ci, rfl, _⟩ := hi.out
  unfold longest at le
  have c0 := hc 0 (by simp)
  have c1 := hc 1 (by simp)
  have c2 := hc 2 (by simp)
  have l5 := block_lt c0
  simp at c0 c1 c2
  generalize bs[b] = blk at *
  obtain ⟨np, hnp⟩ : ∃ np, blk.params.length = np := ⟨_, rfl⟩
  obtain ⟨ni, hni⟩ : ∃ ni, blk.instrs.length = ni := ⟨_, rfl⟩
  obtain ⟨ne, hne⟩ : ∃ ne, blk.edges.length = ne := ⟨_, rfl⟩
  rw [hnp] at c0
  rw [hni] at c1
  rw [hne] at c2 le he0
  obtain ⟨N, hN⟩ : ∃ N, w.heap.size = N := ⟨_, rfl⟩
  obtain ⟨W0, hW0⟩ : ∃ W0, W0 = w.alloc (.cells #[.slice av nv cv, .slice (some ⟨b5, off5, none⟩) n cb] 25) := ⟨_, rfl⟩
  have hb0 : Below w.heap.size w W0 := by rw [hW0]; exact (Below.refl _ _).alloc (Nat.le_refl _) _
  have z0 : W0.heap.size = N + 1 := by rw [hW0, ← hN]; simp
  obtain ⟨W, hW⟩ : ∃ W, W = W0.alloc (.cells #[.slice ap np cp, .slice ai ni ci, .slice ae ne ce] 60) := ⟨_, rfl⟩
  have hb1 : Below W0.heap.size W0 W := by rw [hW]; exact (Below.refl _ _).alloc (Nat.le_refl _) _
  have t5 := top_at W0 #[.slice ap np cp, .slice ai ni ci, .slice ae ne ce] 60
  rw [← hW, z0] at t5
  have hbw : Below w.heap.size w W := hb0.trans (hb1.mono hb0.size)
  have HY : Hid (∀ w', Below W.heap.size W w' → w'.cell? ⟨N + 1, 0, none⟩ = some (.slice ap np cp) ∧ w'.cell? ⟨N + 1, 1, none⟩ = some (.slice ai ni ci) ∧ w'.cell? ⟨N + 1, 2, none⟩ = some (.slice ae ne ce) ∧ N + 1 < w'.heap.size) := fun w' hh => ⟨(hh.cell (p := ⟨N + 1, 0, none⟩) (block_lt (t5 0))).trans (t5 0), (hh.cell (p := ⟨N + 1, 1, none⟩) (block_lt (t5 0))).trans (t5 1), (hh.cell (p := ⟨N + 1, 2, none⟩) (block_lt (t5 0))).trans (t5 2), Nat.lt_of_lt_of_le (block_lt (t5 0)) hh.size⟩
  have e0 := (hb0.cell (p := ⟨b5, off5 + b * 3, none⟩) l5).trans c0
  have e1 := (hb0.cell (p := ⟨b5, off5 + b * 3 + 1, none⟩) l5).trans c1
  have e2 := (hb0.cell (p := ⟨b5, off5 + b * 3 + 2, none⟩) l5).trans c2
  have f1 : W0.cell? ⟨N, 1, none⟩ = some (.slice (some ⟨b5, off5, none⟩) n cb) := by rw [hW0, ← hN]; simp
  have l50 : b5 < W0.heap.size := Nat.lt_of_lt_of_le l5 hb0.size
  have lN0 : N < W0.heap.size := by omega
  have HW0 : Hid (W0 = w.alloc (.cells #[.slice av nv cv, .slice (some ⟨b5, off5, none⟩) n cb] 25)) := hW0
  have HW : Hid (W = W0.alloc (.cells #[.slice ap np cp, .slice ai ni ci, .slice ae ne ce] 60)) := hW
  have HZ0 : Hid (W0.heap.size = N + 1) := z0
  have HN : Hid (w.heap.size = N) := hN
  have HBW : Hid (Below w.heap.size w W) := hbw
  have HE : Hid (SlOf W 2 (REdg W) (.slice ae ne ce) blk.edges ∧ blk.edges.length = ne) := ⟨he0.below hbw (REdg.below hbw), hne⟩
  have HROW : Hid (W.rowIs g 4 n (fun i => .bool (R i))) := hrow.of_block (hbw.block _ hrow.lt)
  have HRE : Hid (∀ e ∈ blk.edges, 0 ≤ e.block ∧ e.block < (n : Int)) := hrg
  have HR : Hid (((blk.edges.any fun e => R e.block.toNat) || decide (v ∈ argsU blk.edges)) = r) := hr
  have hbn : (b : Int) < (n : Int) := by omega
  clear hs hrow hrg hr hc hcl5 hp hi he0 c0 c1 c2 l5 hnp hni hne hN hW0 hW hb0 hb1 t5 z0 hbw hb hbl
  go_enter Try.func16, Try.ntmps16
  go_upto_region 1 with fail
  rw [← HW0.out, HN.out]
  go_upto_region 2 with fail
  rw [← HW.out, HZ0.out]
  clear HW HW0 HZ0 e0 e1 e2 f1 l50 lN0
  obtain ⟨y0, y1, y2, lP⟩ := HY.out _ (Below.refl _ _)
  go_wp2_with fail
  go_loopw [10] (fun x wz => ∃ k : Nat, x = .int .i64 k ∧ k ≤ ne ∧ wz = W ∧ Hid (((blk.edges.take k).any fun e => R e.block.toNat) = false)) (fun x _ => ne - (intOf x).toNat)
  case atStart => exact ⟨0, rfl, Nat.zero_le _, rfl, by show _ = _; simp⟩
  case round =>
    obtain ⟨k, rfl, hk, hwz, HK⟩ := hrel
    subst hwz
    by_cases hltk : k < ne
    · have hke : k < blk.edges.length := by rw [HE.out.2]; exact hltk
      have hkn : (k : Int) < (ne : Int) := by omega
      obtain ⟨b9, off9, aa, ca, rfl, lb9, i0, i1, ha⟩ := edg_aL HE.out.1 k hke
      obtain ⟨t0, t1⟩ := HRE.out _ (List.getElem_mem hke)
      have HK2 : Hid (((blk.edges.take (k + 1)).any fun e => R e.block.toNat) = R (blk.edges[k]'hke).block.toNat) := by
        show _ = _
        rw [any_take hke, HK.out]
        simp
      have HMM : Hid (R (blk.edges[k]'hke).block.toNat = true → (blk.edges.any fun e => R e.block.toNat) = true) := fun h => List.any_eq_true.2 ⟨_, List.getElem_mem hke, h⟩
      clear ha i1 HK
      generalize (blk.edges[k]'hke).block = tb at *
      obtain ⟨t, ht⟩ : ∃ t : Nat, tb = (t : Int) := ⟨tb.toNat, by omega⟩
      subst ht
      rw [Int.toNat_natCast] at HK2 HMM
      have htn : t < n := by omega
      have rt := HROW.out.cell htn
      generalize R t = rtv at *
      cases rtv
      case true =>
        have H : Hid (true = r) := by
          show _ = _
          rw [← HR.out, HMM.out rfl]
          rfl
        go_wp2
        go_ret
        exact ⟨ret_bool H.out, HBW.out⟩
      case false =>
        go_wp2
        go_roundw
        case rel => exact ⟨k + 1, by go_num, by omega, (by first | rfl | trivial), HK2⟩
        case measure => simp [intOf]; omega
    · have HCA := argOf_is blk.edges np ni ne cp ci ce ap ai ae v r (by
        have h := HK.out
        rw [List.take_of_length_le (by rw [HE.out.2]; omega)] at h
        rw [← HR.out, h]
        rfl) wr HE.out.2 HE.out.1
      clear HK
      go_wp2_with fail
      refine HCA.mono ?_
      clear HCA
      rintro e w2 ⟨rfl, hb2⟩
      have HF : Hid (Below w.heap.size w w2) := HBW.out.trans (hb2.mono HBW.out.size)
      clear y0 y1 y2 lP hb2
      go_wp2
      go_ret
      exact ⟨rfl, HF.out⟩
end Go.Proofs.Ytfelpjgagglhiaa
