/-
  The contract of 'orderOf': the blocks to which one can come, each ahead of what it leads to, but for edges back.
-/
import Derived.Test.YtengmgdnpojfjaaFlowG
import Derived.Laws.MakeOwn
import Derived.Laws.EntriesVeiled
namespace Go.Proofs.Ytengmgdnpojfjaa
open Go.RowKit Go.Lib Go.Sort
set_option linter.unusedVariables false

theorem cI_map (l : List Int) : l.flatMap cI = l.map (Value.int .i64) := by
  induction l with
  | nil => rfl
  | cons x r ih => simp [List.flatMap_cons, cI, ih]

theorem make_cap (n : Nat) (hn : n ≤ 1000000) (w : World) : (Instr.makeSlice 22 (.int .i64 0) (.int .i64 (n : Int))).run Try.prog w = .ok (.slice (some ⟨w.heap.size, 0, none⟩) 0 n) (w.alloc (.cells (madeCells #[.int .i64 0] n) 3)) := by
  obtain ⟨i3, hi3, hz3, hz31, hz32⟩ := info_parts infoFI
  have h := run_make (P := Try.prog) w 22 3 i3 (.int .i64 0) Try.underlying22 hi3 hz3 .i64 .i64 0 n (by omega) (by omega) (by rw [hz32]; omega) (by omega)
  rw [hz31] at h
  have e : (Value.int .i64 0).cells = #[.int .i64 0] := rfl
  rw [e] at h
  simp only [Int.toNat_natCast, Nat.mul_one] at h
  exact h

theorem post_pos (bs : List Blk) (h : 0 < bs.length) : 0 < (postM bs).length := by
  unfold postM
  obtain ⟨k, hk⟩ : ∃ k, bs.length = k + 1 := ⟨bs.length - 1, by omega⟩
  rw [hk, visitM_succ]
  simp

theorem post_le (bs : List Blk) (hpos : 0 < bs.length) (hsc : ∀ b t, t ∈ succM bs b → t < bs.length) : (postM bs).length ≤ bs.length := by
  have h := visit_beh (succM bs) hsc bs.length 0 (fun _ => false, []) hpos rfl
  have h2 := h.2
  have hle : unb bs.length (fun _ => false) ≤ bs.length := by
    have := List.countP_le_length (p := fun i : Nat => !(fun _ => false) i) (l := List.range bs.length)
    rw [List.length_range] at this
    exact this
  unfold postM
  simp only [List.length_nil] at h2
  omega
set_option maxHeartbeats 4000000 in
theorem orderOf_any (bs : List Blk) (ab : Option Addr) (cb : Nat) (w : World) (hb : SlOf w 3 (RBlk w) (.slice ab bs.length cb) bs) (hpos : 0 < bs.length) (hn : bs.length ≤ 1000) (hsc : ∀ b t, t ∈ succM bs b → t < bs.length) (hrange : ∀ b ∈ bs, ∀ e ∈ b.edges, 0 ≤ e.block ∧ e.block < (bs.length : Int)) :
    Calls Try.prog 34 #[.slice ab bs.length cb] w fun e w' => ∃ g cap, e = .returned (.slice (some ⟨g, 0, none⟩) (orderM bs).length cap) ∧ (orderM bs).length ≤ cap ∧ w.heap.size ≤ g ∧ SlOf w' 1 RInt (.slice (some ⟨g, 0, none⟩) (orderM bs).length cap) (orderM bs) ∧ Below w.heap.size w w' := by
  have hmk := run_make_row' (P := Try.prog) 62 4 (.bool false) 1 Try.underlying62 (by kernel_rfl) rfl .i64 .i64 bs.length (by omega) (by omega)
  have hmk2 := make_cap bs.length (by omega)
  have hmf : ∀ (fn : Go.Fn) (first cap : Array Value) (w : World), (Instr.makeFunc fn first cap).run Try.prog w = .ok (.func fn first cap) w := fun _ _ _ _ => rfl
  have HV : Hid (VisitOk w w.heap.size bs ab cb bs.length) := visit_any w w.heap.size bs ab cb hb hn hsc hrange bs.length
  have HPP : Hid (0 < (postM bs).length) := post_pos bs hpos
  have hpl := post_le bs hpos hsc
  obtain ⟨W, hW⟩ : ∃ W, W = (((((w.alloc (.cells #[.slice ab bs.length cb] 23)).alloc (.cells (madeCells #[.bool false] bs.length) 4)).alloc (.cells #[.slice (some ⟨w.heap.size + 1, 0, none⟩) bs.length bs.length] 62)).alloc (.cells (madeCells #[.int .i64 0] bs.length) 3)).alloc (.cells #[.slice (some ⟨w.heap.size + 1 + 1 + 1, 0, none⟩) 0 bs.length] 22)).alloc (.cells #[.func (.func 52) #[] #[.pointer (some ⟨w.heap.size + 1 + 1, 0, none⟩), .pointer (some ⟨w.heap.size, 0, none⟩), .pointer (some ⟨w.heap.size + 1 + 1 + 1 + 1 + 1, 0, none⟩), .pointer (some ⟨w.heap.size + 1 + 1 + 1 + 1, 0, none⟩)]] 87) := ⟨_, rfl⟩
  have hst : VSt w w.heap.size bs.length (.slice ab bs.length cb) W (fun _ => false) [] (.slice (some ⟨w.heap.size + 1 + 1 + 1, 0, none⟩) 0 bs.length) := by
    rw [hW]
    have one : ∀ (V : World) (x : Value) (t : Nat), (V.alloc (.cells #[x] t)).rowIs V.heap.size t 1 (fun _ => x) := fun V x t => World.rowIs_alloc V #[x] t (fun _ => x) (fun i hi => by simp at hi; subst hi; rfl)
    have r0 := one w (.slice ab bs.length cb) 23
    obtain ⟨V1, hV1⟩ : ∃ V1, V1 = w.alloc (.cells #[.slice ab bs.length cb] 23) := ⟨_, rfl⟩
    have z1 : V1.heap.size = w.heap.size + 1 := by rw [hV1]; simp
    have b1 : Below w.heap.size w V1 := by rw [hV1]; exact (Below.refl _ _).alloc (Nat.le_refl _) _
    rw [← hV1] at r0 ⊢
    clear hV1
    have r1 := World.rowIs_made V1 (.bool false) bs.length 4
    rw [z1] at r1
    obtain ⟨V2, hV2⟩ : ∃ V2, V2 = V1.alloc (.cells (madeCells #[.bool false] bs.length) 4) := ⟨_, rfl⟩
    have z2 : V2.heap.size = w.heap.size + 1 + 1 := by rw [hV2]; simp [z1]
    replace r0 := r0.alloc (.cells (madeCells #[.bool false] bs.length) 4)
    have b2 : Below w.heap.size w V2 := by rw [hV2]; exact b1.alloc (by omega) _
    rw [← hV2] at r0 r1 ⊢
    clear hV2
    have r2 := one V2 (.slice (some ⟨w.heap.size + 1, 0, none⟩) bs.length bs.length) 62
    rw [z2] at r2
    obtain ⟨V3, hV3⟩ : ∃ V3, V3 = V2.alloc (.cells #[.slice (some ⟨w.heap.size + 1, 0, none⟩) bs.length bs.length] 62) := ⟨_, rfl⟩
    have z3 : V3.heap.size = w.heap.size + 1 + 1 + 1 := by rw [hV3]; simp [z2]
    replace r0 := r0.alloc (.cells #[.slice (some ⟨w.heap.size + 1, 0, none⟩) bs.length bs.length] 62)
    replace r1 := r1.alloc (.cells #[.slice (some ⟨w.heap.size + 1, 0, none⟩) bs.length bs.length] 62)
    have b3 : Below w.heap.size w V3 := by rw [hV3]; exact b2.alloc (by omega) _
    rw [← hV3] at r0 r1 r2 ⊢
    clear hV3
    have r3 := World.rowIs_made V3 (.int .i64 0) bs.length 3
    rw [z3] at r3
    obtain ⟨V4, hV4⟩ : ∃ V4, V4 = V3.alloc (.cells (madeCells #[.int .i64 0] bs.length) 3) := ⟨_, rfl⟩
    have z4 : V4.heap.size = w.heap.size + 1 + 1 + 1 + 1 := by rw [hV4]; simp [z3]
    replace r0 := r0.alloc (.cells (madeCells #[.int .i64 0] bs.length) 3)
    replace r1 := r1.alloc (.cells (madeCells #[.int .i64 0] bs.length) 3)
    replace r2 := r2.alloc (.cells (madeCells #[.int .i64 0] bs.length) 3)
    have b4 : Below w.heap.size w V4 := by rw [hV4]; exact b3.alloc (by omega) _
    rw [← hV4] at r0 r1 r2 r3 ⊢
    clear hV4
    have r4 := one V4 (.slice (some ⟨w.heap.size + 1 + 1 + 1, 0, none⟩) 0 bs.length) 22
    rw [z4] at r4
    obtain ⟨V5, hV5⟩ : ∃ V5, V5 = V4.alloc (.cells #[.slice (some ⟨w.heap.size + 1 + 1 + 1, 0, none⟩) 0 bs.length] 22) := ⟨_, rfl⟩
    have z5 : V5.heap.size = w.heap.size + 1 + 1 + 1 + 1 + 1 := by rw [hV5]; simp [z4]
    replace r0 := r0.alloc (.cells #[.slice (some ⟨w.heap.size + 1 + 1 + 1, 0, none⟩) 0 bs.length] 22)
    replace r1 := r1.alloc (.cells #[.slice (some ⟨w.heap.size + 1 + 1 + 1, 0, none⟩) 0 bs.length] 22)
    replace r2 := r2.alloc (.cells #[.slice (some ⟨w.heap.size + 1 + 1 + 1, 0, none⟩) 0 bs.length] 22)
    replace r3 := r3.alloc (.cells #[.slice (some ⟨w.heap.size + 1 + 1 + 1, 0, none⟩) 0 bs.length] 22)
    have b5 : Below w.heap.size w V5 := by rw [hV5]; exact b4.alloc (by omega) _
    rw [← hV5] at r0 r1 r2 r3 r4 ⊢
    clear hV5
    have r5 := one V5 (.func (.func 52) #[] #[.pointer (some ⟨w.heap.size + 1 + 1, 0, none⟩), .pointer (some ⟨w.heap.size, 0, none⟩), .pointer (some ⟨w.heap.size + 1 + 1 + 1 + 1 + 1, 0, none⟩), .pointer (some ⟨w.heap.size + 1 + 1 + 1 + 1, 0, none⟩)]) 87
    rw [z5] at r5
    have r3' := r3.alloc (.cells #[.func (.func 52) #[] #[.pointer (some ⟨w.heap.size + 1 + 1, 0, none⟩), .pointer (some ⟨w.heap.size, 0, none⟩), .pointer (some ⟨w.heap.size + 1 + 1 + 1 + 1 + 1, 0, none⟩), .pointer (some ⟨w.heap.size + 1 + 1 + 1 + 1, 0, none⟩)]] 87)
    obtain ⟨c, hc, hcs, hcx⟩ := r3'
    refine ⟨r0.alloc _, r1.alloc _, r2.alloc _, r4.alloc _, r5, ⟨rfl, Or.inr ⟨w.heap.size + 1 + 1 + 1, bs.length, c, rfl, Nat.le_refl _, hc, Nat.zero_le _, by unfold maxLen; omega, by omega, rfl⟩⟩, fun g hg => Or.inl ?_, b5.alloc (by omega) _, rfl⟩
    simpa [Value.ownBlock] using hg.symm
  have HW : Hid (W = (((((w.alloc (.cells #[.slice ab bs.length cb] 23)).alloc (.cells (madeCells #[.bool false] bs.length) 4)).alloc (.cells #[.slice (some ⟨w.heap.size + 1, 0, none⟩) bs.length bs.length] 62)).alloc (.cells (madeCells #[.int .i64 0] bs.length) 3)).alloc (.cells #[.slice (some ⟨w.heap.size + 1 + 1 + 1, 0, none⟩) 0 bs.length] 22)).alloc (.cells #[.func (.func 52) #[] #[.pointer (some ⟨w.heap.size + 1 + 1, 0, none⟩), .pointer (some ⟨w.heap.size, 0, none⟩), .pointer (some ⟨w.heap.size + 1 + 1 + 1 + 1 + 1, 0, none⟩), .pointer (some ⟨w.heap.size + 1 + 1 + 1 + 1, 0, none⟩)]] 87)) := hW
  have hle : unb bs.length (fun _ => false) ≤ bs.length := by
    have := List.countP_le_length (p := fun i : Nat => !(fun _ => false) i) (l := List.range bs.length)
    rw [List.length_range] at this
    exact this
  have HC := HV.out 0 W (fun _ => false) [] _ hst hpos rfl hle (by simpa using hle)
  have p5 := hst.pv.cell (i := 0) (by omega)
  clear hW hst hle hb hsc hrange
  go_enter Try.func34, Try.ntmps34
  go_upto_region 5 with fail
  rw [← HW.out]
  clear HW hmk hmk2
  go_wp2_with fail
  refine HC.mono ?_
  clear HC p5
  rintro e w2 ⟨rfl, v', hS⟩
  have hown := hS.own
  rw [cI_map] at hown
  have hlow := hS.low
  have hfar := hS.far
  have p4 := hS.po.cell (i := 0) (by omega)
  have l4 := hS.po.lt
  have z4 := hS.po
  clear hS
  have epost : (visitM (succM bs) bs.length 0 (fun _ => false, [])).2 = postM bs := rfl
  rw [epost] at hown
  have hnn : v' ≠ .slice none 0 0 := by
    rintro rfl
    rcases hown.2 with ⟨_, h0⟩ | ⟨g, cap, cur, h0, _⟩
    · have := HPP.out; omega
    · simp at h0
  obtain ⟨g, cap, rfl, hbg, hgl, hncap, hcm, hlen, hH⟩ := Lib.holds_of_ownsRow hown hnn
  have hrev := reverse_arr g 0 cap (postM bs).toArray w2 hH (by unfold maxLen at hcm; simp; omega)
  have eSz : (postM bs).toArray.size = (postM bs).length := by simp
  rw [eSz] at hrev
  have X : Hid (_ ∧ _ ∧ _ ∧ _ ∧ _) := ⟨hown, hlow, hfar, hbg, z4⟩
  have hg4 : ¬ w.heap.size + 1 + 1 + 1 + 1 = g := by have := hfar g rfl; omega
  clear hown hlow hfar hbg z4 hH hnn eSz epost
  go_wp2_with fail
  refine hrev.mono ?_
  clear hrev
  rintro e w3 ⟨rfl, q, hw3⟩
  have hp3 : w3.cell? ⟨w.heap.size + 1 + 1 + 1 + 1, 0, none⟩ = some (.slice (some ⟨g, 0, none⟩) (postM bs).length cap) := by
    rw [hw3, ← p4]
    refine World.cell?_of_block ?_
    simp [putRow, mapBlock, Sort.ahead, Array.getElem?_modify, show ¬ g = w.heap.size + 1 + 1 + 1 + 1 by omega]
  have hfin : SlOf w3 1 RInt (.slice (some ⟨g, 0, none⟩) (postM bs).length cap) (orderM bs) ∧ Below w.heap.size w w3 := by
    have h1 := Lib.ownsRow_putRow (q := q) (ys := (postM bs).reverse) X.out.1 (by simp) (Nat.le_refl _)
    rw [List.take_of_length_le (by simp), ← cI_map] at h1
    have e2 : (postM bs).toArray.reverse = (postM bs).reverse.toArray := by simp
    rw [e2] at hw3
    have h1' := h1
    refine ⟨?_, ?_⟩
    · rw [hw3]
      exact own_ints _ h1' (by unfold maxLen at hcm; unfold longest; omega)
    · rw [hw3]
      exact Lib.below_putRow X.out.2.1 (by have := X.out.2.2.2.1; omega)
  have HFIN : Hid (_ ∧ _) := hfin
  have hgw : w.heap.size ≤ g := by have := X.out.2.2.2.1; omega
  clear hfin hw3 p4 X
  go_wp2
  go_ret
  have eL : (orderM bs).length = (postM bs).length := by unfold orderM; simp
  rw [eL]
  exact ⟨g, cap, rfl, hncap, hgw, HFIN.out.1, HFIN.out.2⟩
end Go.Proofs.Ytengmgdnpojfjaa
