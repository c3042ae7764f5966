/-
  The contracts of the reference's 'argOf', 'usedIn' and 'madeIn' (P3.1).
-/
import Derived.Test.YtfelpjgagglhiaaC9
import Derived.Test.YtfelpjgagglhiaaC5
import Derived.Test.YtfelpjgagglhiaaV0
import Derived.Deep.QuietTactic
import Derived.BigQuiet
namespace Go.Proofs.Ytfelpjgagglhiaa
open Go.RowKit
set_option linter.unusedVariables false

theorem edg_aL {w : World} {ae : Option Addr} {ne ce : Nat} {xs : List Edg} (h : SlOf w 2 (REdg w) (.slice ae ne ce) xs) (k : Nat) (hk : k < xs.length) : ∃ b off aa ca, ae = some ⟨b, off, none⟩ ∧ b < w.heap.size ∧ w.cell? ⟨b, off + k * 2, none⟩ = some (.int .i64 xs[k].block) ∧ w.cell? ⟨b, off + k * 2 + 1, none⟩ = some (.slice aa xs[k].args.length ca) ∧ SlOf w 1 RInt (.slice aa xs[k].args.length ca) xs[k].args := by
  obtain ⟨b, off, cs, h1, h2, ⟨va, rfl, ha⟩, h4⟩ := h.at k hk
  obtain ⟨aa, ca, rfl, _⟩ := ha.out
  have c0 := h4 0 (by simp)
  have c1 := h4 1 (by simp)
  simp at c0 c1
  exact ⟨b, off, aa, ca, h1, block_lt c0, c0, c1, ha⟩
theorem ins_aL {w : World} {ai : Option Addr} {ni ci : Nat} {xs : List Ins} (h : SlOf w 3 (RIns w) (.slice ai ni ci) xs) (k : Nat) (hk : k < xs.length) : ∃ b off ao co, ai = some ⟨b, off, none⟩ ∧ b < w.heap.size ∧ w.cell? ⟨b, off + k * 3 + 1, none⟩ = some (.slice ao xs[k].operands.length co) ∧ xs[k].operands.length ≤ 140737488355328 ∧ SlOf w 5 ROpr (.slice ao xs[k].operands.length co) xs[k].operands := by
  obtain ⟨b, off, cs, h1, h2, ⟨vo, vs, rfl, ho, hs⟩, h4⟩ := h.at k hk
  obtain ⟨ao, co, rfl, hl⟩ := ho.out
  have c1 := h4 1 (by simp)
  simp at c1
  exact ⟨b, off, ao, co, h1, block_lt c1, c1, hl, ho⟩
theorem oprU_mem {l : List Opr} {v : Int} : v ∈ oprU l ↔ ∃ o ∈ l, o.kind = 1 ∧ o.value = v := by
  simp [oprU, and_assoc]
theorem oprM_mem {l : List Opr} {v : Int} : v ∈ oprM l ↔ ∃ o ∈ l, o.kind = 2 ∧ o.value = v := by
  simp [oprM, and_assoc]
theorem take_mem {α : Type} {l : List α} {k : Nat} {p : α → Prop} (h : k < l.length) (h1 : ∀ x ∈ l.take k, p x) (h2 : p l[k]) : ∀ x ∈ l.take (k + 1), p x := by
  intro x hx
  rw [List.take_succ_eq_append_getElem h] at hx
  rcases List.mem_append.1 hx with hx | hx
  · exact h1 x hx
  · rw [List.mem_singleton.1 hx]; exact h2
theorem take_all {α : Type} {l : List α} {k : Nat} {p : α → Prop} (h : l.length ≤ k) (h1 : ∀ x ∈ l.take k, p x) : ∀ x ∈ l, p x := by
  rw [List.take_of_length_le h] at h1
  exact h1

set_option maxHeartbeats 4000000 in
theorem argOf_is (es : List Edg) (np ni ne cp ci ce : Nat) (ap ai ae : Option Addr) (v : Int) (r : Bool) (hr : decide (v ∈ argsU es) = r) (w : World) (hne : es.length = ne) (he : SlOf w 2 (REdg w) (.slice ae ne ce) es) :
    Calls Try.prog 33 #[.agg #[.slice ap np cp, .slice ai ni ci, .slice ae ne ce], .int .i64 v] w fun e w' => e = .returned (.bool r) ∧ Below w.heap.size w w' := by
  obtain ⟨W, hW⟩ : ∃ W, W = w.alloc (.cells #[.slice ap np cp, .slice ai ni ci, .slice ae ne ce] 60) := ⟨_, rfl⟩
  have hbw : Below w.heap.size w W := by rw [hW]; exact (Below.refl _ _).alloc (Nat.le_refl _) _
  have zW : w.heap.size < W.heap.size := by rw [hW]; simp
  have t0 := top_at w #[.slice ap np cp, .slice ai ni ci, .slice ae ne ce] 60
  rw [← hW] at t0
  have HW : Hid (W = w.alloc (.cells #[.slice ap np cp, .slice ai ni ci, .slice ae ne ce] 60)) := hW
  have HS : Hid (∀ w', Below W.heap.size W w' → w'.cell? ⟨w.heap.size, 0, none⟩ = some (.slice ap np cp) ∧ w'.cell? ⟨w.heap.size, 1, none⟩ = some (.slice ai ni ci) ∧ w'.cell? ⟨w.heap.size, 2, none⟩ = some (.slice ae ne ce) ∧ w.heap.size < w'.heap.size) := fun w' hh => ⟨(hh.cell (p := ⟨w.heap.size, 0, none⟩) zW).trans (t0 0), (hh.cell (p := ⟨w.heap.size, 1, none⟩) zW).trans (t0 1), (hh.cell (p := ⟨w.heap.size, 2, none⟩) zW).trans (t0 2), Nat.lt_of_lt_of_le zW hh.size⟩
  have HBW : Hid (Below w.heap.size w W) := hbw
  obtain ⟨q0, q1, q2, lW⟩ := HS.out _ (Below.refl _ _)
  clear hW t0
  have HE : Hid (SlOf W 2 (REdg W) (.slice ae ne ce) es ∧ es.length = ne) := ⟨he.below hbw (REdg.below hbw), hne⟩
  have HR : Hid (decide (v ∈ argsU es) = r) := hr
  have lne : ne ≤ 140737488355328 := by obtain ⟨_, _, _, hh⟩ := he.out; rw [hne] at hh; exact hh
  clear he hne hr hbw zW
  go_enter Try.func33, Try.ntmps33
  go_upto_region 1 with fail
  rw [← HW.out]
  go_wp2_with fail
  clear HW q0 q1 q2 lW
  go_loopw [5] (fun x wr => ∃ k : Nat, x = .int .i64 k ∧ k ≤ ne ∧ Hid (Below W.heap.size W wr ∧ ∀ e ∈ es.take k, ¬ v ∈ e.args)) (fun x _ => ne - (intOf x).toNat)
  case atStart => exact ⟨0, rfl, Nat.zero_le _, Below.refl _ _, fun e he => by simp at he⟩
  case round =>
    obtain ⟨k, rfl, hk, HK⟩ := hrel
    obtain ⟨q0, q1, q2, lW⟩ := HS.out _ HK.out.1
    by_cases hlt : k < ne
    · have hkl : k < es.length := by rw [HE.out.2]; exact hlt
      obtain ⟨b9, off9, aa, ca, rfl, lb9, i0, i1, ha⟩ := edg_aL (HE.out.1.below HK.out.1 (REdg.below HK.out.1)) k hkl
      obtain ⟨bb, hbb⟩ : ∃ bb, hasI es[k].args v = bb := ⟨_, rfl⟩
      have HBB : Hid (hasI es[k].args v = bb) := hbb
      have HMM : Hid (es[k] ∈ es) := List.getElem_mem hkl
      have HCA := has_at es[k].args _ rfl aa ca v bb hbb wr ha
      have HKN : Hid (¬ v ∈ es[k].args → ∀ e ∈ es.take (k + 1), ¬ v ∈ e.args) := fun h => take_mem hkl HK.out.2 h
      have hkn : (k : Int) < (ne : Int) := by omega
      clear ha hbb
      generalize es[k] = e at *
      go_wp2_with fail
      refine HCA.mono ?_
      clear HCA
      rintro x w2 ⟨rfl, hb2⟩
      have HB2 : Hid (Below W.heap.size W w2) := HK.out.1.trans (hb2.mono HK.out.1.size)
      clear q0 q1 q2 lW i0 i1 lb9 hb2
      cases bb
      · have HK2 : Hid (Below W.heap.size W w2 ∧ ∀ e ∈ es.take (k + 1), ¬ v ∈ e.args) := ⟨HB2.out, HKN.out fun h => by
          have h1 := hasI_iff.2 h
          rw [HBB.out] at h1
          cases h1⟩
        clear HK
        go_wp2
        go_roundw
        case rel => exact ⟨k + 1, by go_num, by omega, HK2⟩
        case measure => simp [intOf]; omega
      · have H : Hid (true = r) := by
          show _ = _
          rw [← HR.out]
          exact (decide_eq_true (List.mem_flatMap.2 ⟨e, HMM.out, hasI_iff.1 HBB.out⟩)).symm
        go_wp2
        go_ret
        exact ⟨ret_bool H.out, HBW.out.trans (HB2.out.mono HBW.out.size)⟩
    · have H : Hid (false = r) := by
        show _ = _
        rw [← HR.out]
        refine (decide_eq_false fun h => ?_).symm
        obtain ⟨e, he, hv⟩ := List.mem_flatMap.1 h
        exact take_all (by rw [HE.out.2]; omega) HK.out.2 e he hv
      have HX : Hid (Below w.heap.size w wr) := HBW.out.trans (HK.out.1.mono HBW.out.size)
      clear HK
      go_wp2
      go_ret
      exact ⟨ret_bool H.out, HX.out⟩

set_option maxRecDepth 4000 in
set_option maxHeartbeats 8000000 in
theorem usedIn_is (is : List Ins) (es : List Edg) (np ni ne cp ci ce : Nat) (ap ai ae : Option Addr) (v : Int) (r : Bool) (hr : decide (v ∈ insU is ∨ v ∈ argsU es) = r) (w : World) (hni : is.length = ni) (hne : es.length = ne) (hi : SlOf w 3 (RIns w) (.slice ai ni ci) is) (he : SlOf w 2 (REdg w) (.slice ae ne ce) es) :
    Calls Try.prog 32 #[.agg #[.slice ap np cp, .slice ai ni ci, .slice ae ne ce], .int .i64 v] w fun e w' => e = .returned (.bool r) ∧ Below w.heap.size w w' := by
  obtain ⟨W, hW⟩ : ∃ W, W = w.alloc (.cells #[.slice ap np cp, .slice ai ni ci, .slice ae ne ce] 60) := ⟨_, rfl⟩
  have hbw : Below w.heap.size w W := by rw [hW]; exact (Below.refl _ _).alloc (Nat.le_refl _) _
  have zW : w.heap.size < W.heap.size := by rw [hW]; simp
  have t0 := top_at w #[.slice ap np cp, .slice ai ni ci, .slice ae ne ce] 60
  rw [← hW] at t0
  have HW : Hid (W = w.alloc (.cells #[.slice ap np cp, .slice ai ni ci, .slice ae ne ce] 60)) := hW
  have HS : Hid (∀ w', Below W.heap.size W w' → w'.cell? ⟨w.heap.size, 0, none⟩ = some (.slice ap np cp) ∧ w'.cell? ⟨w.heap.size, 1, none⟩ = some (.slice ai ni ci) ∧ w'.cell? ⟨w.heap.size, 2, none⟩ = some (.slice ae ne ce) ∧ w.heap.size < w'.heap.size) := fun w' hh => ⟨(hh.cell (p := ⟨w.heap.size, 0, none⟩) zW).trans (t0 0), (hh.cell (p := ⟨w.heap.size, 1, none⟩) zW).trans (t0 1), (hh.cell (p := ⟨w.heap.size, 2, none⟩) zW).trans (t0 2), Nat.lt_of_lt_of_le zW hh.size⟩
  have HBW : Hid (Below w.heap.size w W) := hbw
  obtain ⟨q0, q1, q2, lW⟩ := HS.out _ (Below.refl _ _)
  clear hW t0
  have HE : Hid (SlOf W 2 (REdg W) (.slice ae ne ce) es ∧ es.length = ne) := ⟨he.below hbw (REdg.below hbw), hne⟩
  have HI : Hid (SlOf W 3 (RIns W) (.slice ai ni ci) is ∧ is.length = ni) := ⟨hi.below hbw (RIns.below hbw), hni⟩
  have HR : Hid (decide (v ∈ insU is ∨ v ∈ argsU es) = r) := hr
  have lni : ni ≤ 140737488355328 := by obtain ⟨_, _, _, hh⟩ := hi.out; rw [hni] at hh; exact hh
  have HB0 : Hid (Below W.heap.size W W) := Below.refl _ _
  clear he hne hi hni hr hbw zW
  go_enter Try.func32, Try.ntmps32
  go_upto_region 1 with fail
  rw [← HW.out]
  go_wp2_with fail
  clear HW q0 q1 q2 lW
  go_loopw [5] (fun x wr => ∃ i : Nat, x = .int .i64 i ∧ i ≤ ni ∧ Hid (Below W.heap.size W wr ∧ ∀ x ∈ is.take i, ¬ v ∈ oprU x.operands)) (fun x _ => ni - (intOf x).toNat)
  case atStart => exact ⟨0, rfl, Nat.zero_le _, HB0.out, fun x hx => by simp at hx⟩
  case round =>
    clear HB0
    obtain ⟨i, rfl, hi, HK⟩ := hrel
    obtain ⟨wo, hwo⟩ : ∃ wo, wo = wr := ⟨_, rfl⟩
    subst hwo
    obtain ⟨q0, q1, q2, lW⟩ := HS.out _ HK.out.1
    by_cases hlt : i < ni
    · have hil : i < is.length := by rw [HI.out.2]; exact hlt
      obtain ⟨b7, off7, ao, co, rfl, lb7, i1, lo, ho⟩ := ins_aL (HI.out.1.below HK.out.1 (RIns.below HK.out.1)) i hil
      have HO : Hid (SlOf wo 5 ROpr (.slice ao is[i].operands.length co) is[i].operands) := ho
      have HMX : Hid (is[i] ∈ is) := List.getElem_mem hil
      have HI1 : Hid (∀ w', Below wo.heap.size wo w' → w'.cell? ⟨b7, off7 + i * 3 + 1, none⟩ = some (.slice ao is[i].operands.length co) ∧ b7 < w'.heap.size) := fun w' hh => ⟨(hh.cell (p := ⟨b7, _, none⟩) lb7).trans i1, Nat.lt_of_lt_of_le lb7 hh.size⟩
      have HXN : Hid (¬ v ∈ oprU is[i].operands → ∀ x ∈ is.take (i + 1), ¬ v ∈ oprU x.operands) := fun h => take_mem hil HK.out.2 h
      have hin : (i : Int) < (ni : Int) := by omega
      clear ho i1 lb7
      generalize is[i] = x at *
      generalize hxo : x.operands = os at *
      have HXO : Hid (x.operands = os) := hxo
      clear hxo
      go_wp2
      clear q0 q1 q2 lW
      go_loopw [6] (fun y wr => ∃ j : Nat, y = .int .i64 j ∧ j ≤ os.length ∧ Hid (Below wo.heap.size wo wr ∧ ∀ o ∈ os.take j, ¬ (o.kind = 1 ∧ o.value = v))) (fun y _ => os.length - (intOf y).toNat)
      case atStart => exact ⟨0, rfl, Nat.zero_le _, Below.refl _ _, fun o ho => by simp at ho⟩
      case round =>
        obtain ⟨j, rfl, hj, HJ⟩ := hrel
        have HBr : Hid (Below W.heap.size W wr) := HK.out.1.trans (HJ.out.1.mono HK.out.1.size)
        obtain ⟨q0, q1, q2, lW⟩ := HS.out _ HBr.out
        obtain ⟨i1, lb7⟩ := HI1.out _ HJ.out.1
        by_cases hltj : j < os.length
        · obtain ⟨b8, off8, rfl, hb8, o0, o1, o2, o3, o4⟩ := opr_cells (HO.out.below HJ.out.1 fun _ _ h => h) j hltj
          have HMO : Hid (os[j] ∈ os) := List.getElem_mem hltj
          have HJN : Hid (¬ (os[j].kind = 1 ∧ os[j].value = v) → ∀ o ∈ os.take (j + 1), ¬ (o.kind = 1 ∧ o.value = v)) := fun h => take_mem (p := fun o : Opr => ¬ (o.kind = 1 ∧ o.value = v)) hltj HJ.out.2 h
          have hjn : (j : Int) < (os.length : Int) := by omega
          generalize os[j] = o at *
          obtain ⟨okd, ovl, olt, olm, onn⟩ := o
          simp only at o0 o1 o2 o3 o4
          have HB5 : Hid (Below wo.heap.size wo (wr.alloc (.cells #[.int .i64 okd, .int .i64 ovl, .bool olt, .int .i64 olm, .int .i64 onn] 78))) := HJ.out.1.alloc HJ.out.1.size _
          by_cases hk1 : okd = 1
          · have g1 : (okd == 1) = true := by simp [hk1]
            by_cases hv1 : ovl = v
            · have g2 : (ovl == v) = true := by simp [hv1]
              have H : Hid (true = r) := by
                show _ = _
                rw [← HR.out]
                refine (decide_eq_true ?_).symm
                have hm : v ∈ oprU x.operands := oprU_mem.2 ⟨_, by rw [HXO.out]; exact HMO.out, hk1, hv1⟩
                exact Or.inl (List.mem_flatMap.2 ⟨x, HMX.out, hm⟩)
              have HF : Hid (Below w.heap.size w (wr.alloc (.cells #[.int .i64 okd, .int .i64 ovl, .bool olt, .int .i64 olm, .int .i64 onn] 78))) := HBW.out.trans ((HK.out.1.trans (HB5.out.mono HK.out.1.size)).mono HBW.out.size)
              clear hk1 hv1 HJN HMO HB5
              go_upto_region 8 with fail
              go_wp2
              go_ret
              exact ⟨ret_bool H.out, HF.out⟩
            · have g2 : (ovl == v) = false := by simpa using hv1
              have HJ2 : Hid (Below wo.heap.size wo (wr.alloc (.cells #[.int .i64 okd, .int .i64 ovl, .bool olt, .int .i64 olm, .int .i64 onn] 78)) ∧ ∀ o ∈ os.take (j + 1), ¬ (o.kind = 1 ∧ o.value = v)) := ⟨HB5.out, HJN.out fun h => hv1 h.2⟩
              clear hk1 hv1 HJN HMO HB5 HJ
              go_upto_region 8 with fail
              go_wp2
              go_roundw
              case rel => exact ⟨j + 1, by go_num, by omega, HJ2⟩
              case measure => simp [intOf]; omega
          · have g1 : (okd == 1) = false := by simpa using hk1
            have HJ2 : Hid (Below wo.heap.size wo (wr.alloc (.cells #[.int .i64 okd, .int .i64 ovl, .bool olt, .int .i64 olm, .int .i64 onn] 78)) ∧ ∀ o ∈ os.take (j + 1), ¬ (o.kind = 1 ∧ o.value = v)) := ⟨HB5.out, HJN.out fun h => hk1 h.1⟩
            clear hk1 HJN HMO HB5 HJ
            go_upto_region 8 with fail
            go_wp2
            go_roundw
            case rel => exact ⟨j + 1, by go_num, by omega, HJ2⟩
            case measure => simp [intOf]; omega
        · have HK2 : Hid (Below W.heap.size W wr ∧ ∀ x ∈ is.take (i + 1), ¬ v ∈ oprU x.operands) := ⟨HBr.out, HXN.out fun h => by
            obtain ⟨o, ho, h1, h2⟩ := oprU_mem.1 h
            exact take_all (by omega) HJ.out.2 o ho ⟨h1, h2⟩⟩
          clear HJ
          go_wp2
          go_roundw
          case rel => exact ⟨i + 1, by go_num, by omega, HK2⟩
          case measure => simp [intOf]; omega
    · have HNO : Hid (∀ x ∈ is, ¬ v ∈ oprU x.operands) := take_all (by rw [HI.out.2]; omega) HK.out.2
      have HX : Hid (Below W.heap.size W wo) := HK.out.1
      clear HK
      have HCA := argOf_is es np ni ne cp ci ce ap ai ae v r (by
        rw [← HR.out]
        refine decide_eq_decide.2 ⟨Or.inr, fun h => h.resolve_left fun h1 => ?_⟩
        obtain ⟨x, hx, hv⟩ := List.mem_flatMap.1 h1
        exact HNO.out x hx hv) wo HE.out.2 (HE.out.1.below HX.out (REdg.below HX.out))
      go_wp2_with fail
      refine HCA.mono ?_
      clear HCA
      rintro e w2 ⟨rfl, hb2⟩
      have HF : Hid (Below w.heap.size w w2) := HBW.out.trans ((HX.out.trans (hb2.mono HX.out.size)).mono HBW.out.size)
      clear q0 q1 q2 lW hb2
      go_wp2
      go_ret
      exact ⟨rfl, HF.out⟩

set_option maxRecDepth 4000 in
set_option maxHeartbeats 8000000 in
theorem madeIn_is (ps : List Int) (is : List Ins) (np ni ne cp ci ce : Nat) (ap ai ae : Option Addr) (v : Int) (r : Bool) (hr : decide (v ∈ ps ++ insM is) = r) (w : World) (hnp : ps.length = np) (hni : is.length = ni) (hp : SlOf w 1 RInt (.slice ap np cp) ps) (hi : SlOf w 3 (RIns w) (.slice ai ni ci) is) :
    Calls Try.prog 31 #[.agg #[.slice ap np cp, .slice ai ni ci, .slice ae ne ce], .int .i64 v] w fun e w' => e = .returned (.bool r) ∧ Below w.heap.size w w' := by
  obtain ⟨W, hW⟩ : ∃ W, W = w.alloc (.cells #[.slice ap np cp, .slice ai ni ci, .slice ae ne ce] 60) := ⟨_, rfl⟩
  have hbw : Below w.heap.size w W := by rw [hW]; exact (Below.refl _ _).alloc (Nat.le_refl _) _
  have zW : w.heap.size < W.heap.size := by rw [hW]; simp
  have t0 := top_at w #[.slice ap np cp, .slice ai ni ci, .slice ae ne ce] 60
  rw [← hW] at t0
  have HW : Hid (W = w.alloc (.cells #[.slice ap np cp, .slice ai ni ci, .slice ae ne ce] 60)) := hW
  have HS : Hid (∀ w', Below W.heap.size W w' → w'.cell? ⟨w.heap.size, 0, none⟩ = some (.slice ap np cp) ∧ w'.cell? ⟨w.heap.size, 1, none⟩ = some (.slice ai ni ci) ∧ w'.cell? ⟨w.heap.size, 2, none⟩ = some (.slice ae ne ce) ∧ w.heap.size < w'.heap.size) := fun w' hh => ⟨(hh.cell (p := ⟨w.heap.size, 0, none⟩) zW).trans (t0 0), (hh.cell (p := ⟨w.heap.size, 1, none⟩) zW).trans (t0 1), (hh.cell (p := ⟨w.heap.size, 2, none⟩) zW).trans (t0 2), Nat.lt_of_lt_of_le zW hh.size⟩
  have HBW : Hid (Below w.heap.size w W) := hbw
  obtain ⟨q0, q1, q2, lW⟩ := HS.out _ (Below.refl _ _)
  clear hW t0
  have HI : Hid (SlOf W 3 (RIns W) (.slice ai ni ci) is ∧ is.length = ni) := ⟨hi.below hbw (RIns.below hbw), hni⟩
  have HR : Hid (decide (v ∈ ps ++ insM is) = r) := hr
  have lni : ni ≤ 140737488355328 := by obtain ⟨_, _, _, hh⟩ := hi.out; rw [hni] at hh; exact hh
  obtain ⟨bb, hbb⟩ : ∃ bb, hasI ps v = bb := ⟨_, rfl⟩
  have HBB : Hid (hasI ps v = bb) := hbb
  have HCA := has_at ps np hnp ap cp v bb hbb W (hp.below hbw fun _ _ h => h)
  clear hi hni hr hbw zW hp hnp hbb
  go_enter Try.func31, Try.ntmps31
  go_upto_region 1 with fail
  rw [← HW.out]
  go_wp2_with fail
  refine HCA.mono ?_
  clear HCA HW
  rintro e w1 ⟨rfl, hb1⟩
  have HB0 : Hid (Below W.heap.size W w1) := hb1
  clear q0 q1 q2 lW hb1
  cases bb
  rotate_left
  · have H : Hid (true = r) := by
      show _ = _
      rw [← HR.out]
      exact (decide_eq_true (List.mem_append_left _ (hasI_iff.1 HBB.out))).symm
    go_wp2
    go_ret
    exact ⟨ret_bool H.out, HBW.out.trans (HB0.out.mono HBW.out.size)⟩
  have HNP : Hid (¬ v ∈ ps) := fun h => by
    have h1 := hasI_iff.2 h
    rw [HBB.out] at h1
    cases h1
  go_wp2_with fail
  go_loopw [5] (fun x wr => ∃ i : Nat, x = .int .i64 i ∧ i ≤ ni ∧ Hid (Below W.heap.size W wr ∧ ∀ x ∈ is.take i, ¬ v ∈ oprM x.operands)) (fun x _ => ni - (intOf x).toNat)
  case atStart => exact ⟨0, rfl, Nat.zero_le _, HB0.out, fun x hx => by simp at hx⟩
  case round =>
    clear HB0
    obtain ⟨i, rfl, hi, HK⟩ := hrel
    obtain ⟨wo, hwo⟩ : ∃ wo, wo = wr := ⟨_, rfl⟩
    subst hwo
    obtain ⟨q0, q1, q2, lW⟩ := HS.out _ HK.out.1
    by_cases hlt : i < ni
    · have hil : i < is.length := by rw [HI.out.2]; exact hlt
      obtain ⟨b7, off7, ao, co, rfl, lb7, i1, lo, ho⟩ := ins_aL (HI.out.1.below HK.out.1 (RIns.below HK.out.1)) i hil
      have HO : Hid (SlOf wo 5 ROpr (.slice ao is[i].operands.length co) is[i].operands) := ho
      have HMX : Hid (is[i] ∈ is) := List.getElem_mem hil
      have HI1 : Hid (∀ w', Below wo.heap.size wo w' → w'.cell? ⟨b7, off7 + i * 3 + 1, none⟩ = some (.slice ao is[i].operands.length co) ∧ b7 < w'.heap.size) := fun w' hh => ⟨(hh.cell (p := ⟨b7, _, none⟩) lb7).trans i1, Nat.lt_of_lt_of_le lb7 hh.size⟩
      have HXN : Hid (¬ v ∈ oprM is[i].operands → ∀ x ∈ is.take (i + 1), ¬ v ∈ oprM x.operands) := fun h => take_mem hil HK.out.2 h
      have hin : (i : Int) < (ni : Int) := by omega
      clear ho i1 lb7
      generalize is[i] = x at *
      generalize hxo : x.operands = os at *
      have HXO : Hid (x.operands = os) := hxo
      clear hxo
      go_wp2
      clear q0 q1 q2 lW
      go_loopw [6] (fun y wr => ∃ j : Nat, y = .int .i64 j ∧ j ≤ os.length ∧ Hid (Below wo.heap.size wo wr ∧ ∀ o ∈ os.take j, ¬ (o.kind = 2 ∧ o.value = v))) (fun y _ => os.length - (intOf y).toNat)
      case atStart => exact ⟨0, rfl, Nat.zero_le _, Below.refl _ _, fun o ho => by simp at ho⟩
      case round =>
        obtain ⟨j, rfl, hj, HJ⟩ := hrel
        have HBr : Hid (Below W.heap.size W wr) := HK.out.1.trans (HJ.out.1.mono HK.out.1.size)
        obtain ⟨q0, q1, q2, lW⟩ := HS.out _ HBr.out
        obtain ⟨i1, lb7⟩ := HI1.out _ HJ.out.1
        by_cases hltj : j < os.length
        · obtain ⟨b8, off8, rfl, hb8, o0, o1, o2, o3, o4⟩ := opr_cells (HO.out.below HJ.out.1 fun _ _ h => h) j hltj
          have HMO : Hid (os[j] ∈ os) := List.getElem_mem hltj
          have HJN : Hid (¬ (os[j].kind = 2 ∧ os[j].value = v) → ∀ o ∈ os.take (j + 1), ¬ (o.kind = 2 ∧ o.value = v)) := fun h => take_mem (p := fun o : Opr => ¬ (o.kind = 2 ∧ o.value = v)) hltj HJ.out.2 h
          have hjn : (j : Int) < (os.length : Int) := by omega
          generalize os[j] = o at *
          obtain ⟨okd, ovl, olt, olm, onn⟩ := o
          simp only at o0 o1 o2 o3 o4
          have HB5 : Hid (Below wo.heap.size wo (wr.alloc (.cells #[.int .i64 okd, .int .i64 ovl, .bool olt, .int .i64 olm, .int .i64 onn] 78))) := HJ.out.1.alloc HJ.out.1.size _
          by_cases hk1 : okd = 2
          · have g1 : (okd == 2) = true := by simp [hk1]
            by_cases hv1 : ovl = v
            · have g2 : (ovl == v) = true := by simp [hv1]
              have H : Hid (true = r) := by
                show _ = _
                rw [← HR.out]
                refine (decide_eq_true ?_).symm
                have hm : v ∈ oprM x.operands := oprM_mem.2 ⟨_, by rw [HXO.out]; exact HMO.out, hk1, hv1⟩
                exact List.mem_append_right _ (List.mem_flatMap.2 ⟨x, HMX.out, hm⟩)
              have HF : Hid (Below w.heap.size w (wr.alloc (.cells #[.int .i64 okd, .int .i64 ovl, .bool olt, .int .i64 olm, .int .i64 onn] 78))) := HBW.out.trans ((HK.out.1.trans (HB5.out.mono HK.out.1.size)).mono HBW.out.size)
              clear hk1 hv1 HJN HMO HB5
              go_upto_region 10 with fail
              go_wp2
              go_ret
              exact ⟨ret_bool H.out, HF.out⟩
            · have g2 : (ovl == v) = false := by simpa using hv1
              have HJ2 : Hid (Below wo.heap.size wo (wr.alloc (.cells #[.int .i64 okd, .int .i64 ovl, .bool olt, .int .i64 olm, .int .i64 onn] 78)) ∧ ∀ o ∈ os.take (j + 1), ¬ (o.kind = 2 ∧ o.value = v)) := ⟨HB5.out, HJN.out fun h => hv1 h.2⟩
              clear hk1 hv1 HJN HMO HB5 HJ
              go_upto_region 10 with fail
              go_wp2
              go_roundw
              case rel => exact ⟨j + 1, by go_num, by omega, HJ2⟩
              case measure => simp [intOf]; omega
          · have g1 : (okd == 2) = false := by simpa using hk1
            have HJ2 : Hid (Below wo.heap.size wo (wr.alloc (.cells #[.int .i64 okd, .int .i64 ovl, .bool olt, .int .i64 olm, .int .i64 onn] 78)) ∧ ∀ o ∈ os.take (j + 1), ¬ (o.kind = 2 ∧ o.value = v)) := ⟨HB5.out, HJN.out fun h => hk1 h.1⟩
            clear hk1 HJN HMO HB5 HJ
            go_upto_region 10 with fail
            go_wp2
            go_roundw
            case rel => exact ⟨j + 1, by go_num, by omega, HJ2⟩
            case measure => simp [intOf]; omega
        · have HK2 : Hid (Below W.heap.size W wr ∧ ∀ x ∈ is.take (i + 1), ¬ v ∈ oprM x.operands) := ⟨HBr.out, HXN.out fun h => by
            obtain ⟨o, ho, h1, h2⟩ := oprM_mem.1 h
            exact take_all (by omega) HJ.out.2 o ho ⟨h1, h2⟩⟩
          clear HJ
          go_wp2
          go_roundw
          case rel => exact ⟨i + 1, by go_num, by omega, HK2⟩
          case measure => simp [intOf]; omega
    · have HNO : Hid (∀ x ∈ is, ¬ v ∈ oprM x.operands) := take_all (by rw [HI.out.2]; omega) HK.out.2
      have HX : Hid (Below W.heap.size W wo) := HK.out.1
      clear HK
      have H : Hid (false = r) := by
        show _ = _
        rw [← HR.out]
        refine (decide_eq_false fun h => ?_).symm
        rcases List.mem_append.1 h with h | h
        · exact HNP.out h
        · obtain ⟨x, hx, hv⟩ := List.mem_flatMap.1 h
          exact HNO.out x hx hv
      go_wp2
      go_ret
      exact ⟨ret_bool H.out, HBW.out.trans (HX.out.mono HBW.out.size)⟩

end Go.Proofs.Ytfelpjgagglhiaa
