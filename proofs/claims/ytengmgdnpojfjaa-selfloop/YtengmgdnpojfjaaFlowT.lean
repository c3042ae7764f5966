/-
  Two slices that hold the same are the same ('sameInts'); and a check, by computing, of what a plain function has whose shape is right.
-/
import Derived.Test.YtengmgdnpojfjaaFlowS
namespace Go.Proofs.Ytengmgdnpojfjaa
open Go.RowKit
set_option linter.unusedVariables false

set_option maxHeartbeats 2000000 in
theorem sameInts_true (l : List Int) (a b : Option Addr) (n c d : Nat) (w : World) (hn : l.length = n) (h1 : SlOf w 1 RInt (.slice a n c) l) (h2 : SlOf w 1 RInt (.slice b n d) l) :
    Calls Try.prog 17 #[.slice a n c, .slice b n d] w fun e w' => e = .returned (.bool true) ∧ Below w.heap.size w w' := by
  subst hn
  have lb : l.length ≤ longest := by
    obtain ⟨_, _, _, h⟩ := h1.out
    exact h
  unfold longest at lb
  have HA : Hid (SlOf w 1 RInt (.slice a l.length c) l) := h1
  have HB : Hid (SlOf w 1 RInt (.slice b l.length d) l) := h2
  clear h1 h2
  go_enter Try.func17, Try.ntmps17
  go_wp2_with fail
  go_loopw [5] (fun i wr => ∃ k : Nat, k ≤ l.length ∧ i = .int .i64 k ∧ Below w.heap.size w wr) (fun i _ => l.length - (intOf i).toNat)
  case atStart => exact ⟨0, Nat.zero_le _, rfl, Below.refl _ _⟩
  case round =>
    obtain ⟨k, hk, rfl, hbr⟩ := hrel
    by_cases hlt : k < l.length
    · obtain ⟨b1, o1, rfl, hb1, hc1⟩ := ints_at HA.out k (by omega) (by omega)
      obtain ⟨b2, o2, rfl, hb2, hc2⟩ := ints_at HB.out k (by omega) (by omega)
      rw [Int.toNat_natCast] at hc1 hc2
      have e1 := (hbr.cell (p := ⟨b1, o1 + k, none⟩) hb1).trans hc1
      have e2 := (hbr.cell (p := ⟨b2, o2 + k, none⟩) hb2).trans hc2
      clear hc1 hc2
      generalize l.getD k 0 = x at *
      go_wp2_with fail
      go_quiet (fail)
      go_wp2
      go_roundw
      case rel => exact ⟨k + 1, by omega, by go_num, below_drewN hbr _⟩
      case measure => simp [intOf]; omega
    · go_wp2
      go_ret
      exact ⟨rfl, hbr⟩

def inB (n : Nat) (v : Int) : Bool := decide (0 ≤ v) && decide (v < (n : Int))
theorem inB_iff {n : Nat} {v : Int} (h : inB n v = true) : 0 ≤ v ∧ v < (n : Int) := by simpa [inB] using h
/-- All of it, by computing. -/
def flowInB (f : Fn) (K : Nat) : Bool :=
  decide (0 < f.blocks.length) && decide (f.blocks.length ≤ 1000) && decide (f.values.length ≤ 1000) && decide ((pairsM f.blocks).length ≤ 100000) &&
  (f.blocks.all fun b => b.edges.all fun e => inB f.blocks.length e.block) &&
  (f.blocks.all fun b => b.params.all (inB f.values.length) && b.instrs.all fun x => x.operands.all fun o => inB f.values.length o.value) &&
  (f.blocks.all fun b => b.edges.all fun e => e.args.all (inB f.values.length)) &&
  decide ((orderM f.blocks).length = f.blocks.length) && decide (orderM f.blocks).Nodup && (orderM f.blocks).all (inB f.blocks.length) &&
  ((List.range f.blocks.length).all fun a => (orderM f.blocks).contains (a : Int)) &&
  ((List.range f.blocks.length).all fun i => decide (i = 0) || ((predsL f.blocks).getD ((orderM f.blocks).getD i 0).toNat []).any fun p => decide (rankM (orderM f.blocks) p.toNat < i)) &&
  ((List.range f.blocks.length).all fun i => decide (roundsM (predL (predsL f.blocks)) (orderM f.blocks) f.blocks.length (K + 1) i = roundsM (predL (predsL f.blocks)) (orderM f.blocks) f.blocks.length K i))

theorem into_mem {bs : List Blk} {t : Nat} {p : Int} (h : p ∈ intoM (pairsM bs) t) : 0 ≤ p ∧ p < (bs.length : Int) := by
  unfold intoM at h
  obtain ⟨q, hq, rfl⟩ := List.mem_map.1 h
  have hq2 := (List.mem_filter.1 hq).1
  unfold pairsM pairsUpto at hq2
  obtain ⟨b, hb, hq3⟩ := List.mem_flatMap.1 hq2
  obtain ⟨t', _, rfl⟩ := List.mem_map.1 hq3
  have := List.mem_range.1 hb
  simp only
  omega
theorem preds_inn (bs : List Blk) (t : Nat) : ∀ p ∈ (predsL bs).getD t [], 0 ≤ p ∧ p < (bs.length : Int) := by
  intro p hp
  unfold predsL at hp
  by_cases ht : t < bs.length
  · rw [List.getD_eq_getElem?_getD, List.getElem?_eq_getElem (by simpa using ht)] at hp
    simp only [List.getElem_map, List.getElem_range, Option.getD_some] at hp
    exact into_mem hp
  · rw [List.getD_eq_getElem?_getD, List.getElem?_eq_none (by simp; omega)] at hp
    simp at hp
theorem succ_lt {bs : List Blk} (h : ∀ b ∈ bs, ∀ e ∈ b.edges, 0 ≤ e.block ∧ e.block < (bs.length : Int)) (b t : Nat) (ht : t ∈ succM bs b) : t < bs.length := by
  unfold succM at ht
  by_cases hb : b < bs.length
  · rw [List.getD_eq_getElem?_getD, List.getElem?_eq_getElem hb] at ht
    obtain ⟨e, he, rfl⟩ := List.mem_map.1 ht
    have := h bs[b] (List.getElem_mem hb) e he
    omega
  · rw [List.getD_eq_getElem?_getD, List.getElem?_eq_none (by omega)] at ht
    simp at ht
theorem flowIn_of {f : Fn} {K : Nat} (h : flowInB f K = true) : FlowIn f K := by
  unfold flowInB at h
  simp only [Bool.and_eq_true, decide_eq_true_eq, List.all_eq_true] at h
  obtain ⟨⟨⟨⟨⟨⟨⟨⟨⟨⟨⟨⟨h1, h2⟩, h3⟩, h4⟩, h5⟩, h6⟩, h7⟩, h8⟩, h9⟩, h10⟩, h11⟩, h12⟩, h13⟩ := h
  have hr : ∀ b ∈ f.blocks, ∀ e ∈ b.edges, 0 ≤ e.block ∧ e.block < (f.blocks.length : Int) := fun b hb e he => inB_iff (h5 b hb e he)
  refine ⟨h1, h2, h3, h4, hr, succ_lt hr, fun b hb => ⟨fun v hv => inB_iff ((h6 b hb).1 v hv), fun x hx o ho _ => inB_iff ((h6 b hb).2 x hx o ho)⟩, fun b hb => ⟨fun x hx o ho _ => inB_iff ((h6 b hb).2 x hx o ho), fun e he v hv => inB_iff (h7 b hb e he v hv)⟩, fun _ => ⟨⟨h1, by unfold predsL; simp, h8, h9, fun x hx => inB_iff (h10 x hx), fun a a0 a1 => ?_, preds_inn f.blocks, fun i i0 i1 => ?_⟩, fun i hi => h13 i (List.mem_range.2 hi)⟩⟩
  · have := h11 a.toNat (List.mem_range.2 (by omega))
    rw [Int.toNat_of_nonneg a0] at this
    simpa using this
  · have := h12 i (List.mem_range.2 i1)
    simp only [Bool.or_eq_true, decide_eq_true_eq, List.any_eq_true] at this
    rcases this with h | ⟨p, hp, h⟩
    · omega
    · exact ⟨p, hp, h⟩
end Go.Proofs.Ytengmgdnpojfjaa
