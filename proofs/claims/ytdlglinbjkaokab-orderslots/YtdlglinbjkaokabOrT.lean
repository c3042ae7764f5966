/-
  The statements' own 'cell', and a row of cells in which moves are done one by one.
-/
import Derived.Test.YtdlglinbjkaokabOrQ
import Derived.Test.YtdlglinbjkaokabMkC
namespace Go.Proofs.Ytdlglinbjkaokab
open Go.RowKit
set_option linter.unusedVariables false

def cellK (p : Pl) : Int := if p.kind = 2 then 100 + p.n else 20 * p.cls + p.n
theorem cellK_bd {r0 r1 fr : Int} (h0 : r0 ≤ 10) (h1 : r1 ≤ 10) (hf : fr ≤ 50) {p : Pl} (h : MayP r0 r1 fr p) : 0 ≤ cellK p ∧ cellK p < 200 := by
  unfold cellK
  rcases h with ⟨a, b, c, d⟩ | ⟨a, b, c, d⟩
  · rw [if_neg (by omega)]
    unfold regsR at d
    rcases b with e | e <;> rw [e] at d ⊢ <;> simp at d <;> omega
  · rw [if_pos a]
    omega
theorem cellK_inj {r0 r1 fr : Int} (h0 : r0 ≤ 10) (h1 : r1 ≤ 10) {p q : Pl} (hp : MayP r0 r1 fr p) (hq : MayP r0 r1 fr q) (h : cellK p = cellK q) : p = q := by
  obtain ⟨pk, pc, pn⟩ := p
  obtain ⟨qk, qc, qn⟩ := q
  unfold cellK at h
  unfold MayP regsR at hp hq
  simp only at h hp hq
  rcases hp with ⟨a, b, c, d⟩ | ⟨a, b, c, d⟩ <;> rcases hq with ⟨a', b', c', d'⟩ | ⟨a', b', c', d'⟩
  · rw [if_neg (by omega), if_neg (by omega)] at h
    have e1 : pc = qc := by
      rcases b with e | e <;> rcases b' with e' | e' <;> rw [e] at d <;> rw [e'] at d' <;> simp at d d' <;> omega
    subst e1
    have e2 : pn = qn := by omega
    subst e2
    rw [a, a']
  · rw [if_neg (by omega), if_pos (by omega)] at h
    exfalso
    rcases b with e | e <;> rw [e] at d <;> simp at d <;> omega
  · rw [if_pos (by omega), if_neg (by omega)] at h
    exfalso
    rcases b' with e | e <;> rw [e] at d' <;> simp at d' <;> omega
  · rw [if_pos (by omega), if_pos (by omega)] at h
    have e2 : pn = qn := by omega
    subst e2
    rw [a, a', b, b']
set_option maxHeartbeats 2000000 in
theorem cell_any (k c n : Int) (hc : 0 ≤ c ∧ c ≤ 1) (hn : 0 ≤ n ∧ n ≤ 1000) (w : World) :
    Calls Try.prog 8 #[.agg #[.int .i64 k, .int .i64 c, .int .i64 n]] w fun e w' => e = .returned (.int .i64 (cellK ⟨k, c, n⟩)) ∧ Below w.heap.size w w' := by
  have hb : Below w.heap.size w (w.alloc (.cells #[.int .i64 k, .int .i64 c, .int .i64 n] 26)) := (Below.refl _ _).alloc (Nat.le_refl _) _
  obtain ⟨c0, c1⟩ := hc
  obtain ⟨n0, n1⟩ := hn
  by_cases hk : k = 2
  · have q : (k == 2) = true := by simpa using hk
    have hw : IntKind.i64.wrap (100 + n) = 100 + n := by rw [IntKind.wrap_i64]; omega
    have H : Hid (100 + n = cellK ⟨k, c, n⟩) := by show _ = _; unfold cellK; rw [if_pos hk]
    clear hk
    go_enter Try.func8, Try.ntmps8
    go_wp2
    go_ret
    exact ⟨ret_int H.out, hb⟩
  · have q : (k == 2) = false := by simpa using hk
    have hw1 : IntKind.i64.wrap (20 * c) = 20 * c := by rw [IntKind.wrap_i64]; omega
    have hw : IntKind.i64.wrap (20 * c + n) = 20 * c + n := by rw [IntKind.wrap_i64]; omega
    have H : Hid (20 * c + n = cellK ⟨k, c, n⟩) := by show _ = _; unfold cellK; rw [if_neg hk]
    clear hk
    go_enter Try.func8, Try.ntmps8
    go_wp2
    go_ret
    exact ⟨ret_int H.out, hb⟩
theorem may_cell {r0 r1 fr : Int} (h0 : r0 ≤ 10) (h1 : r1 ≤ 10) (hf : fr ≤ 50) {p : Pl} (h : MayP r0 r1 fr p) (w : World) :
    Calls Try.prog 8 #[.agg #[.int .i64 p.kind, .int .i64 p.cls, .int .i64 p.n]] w fun e w' => e = .returned (.int .i64 (cellK p)) ∧ Below w.heap.size w w' := by
  refine cell_any p.kind p.cls p.n ?_ ?_ w
  · rcases h with ⟨_, b, _⟩ | ⟨_, b, _⟩ <;> omega
  · rcases h with ⟨_, b, c, d⟩ | ⟨_, b, c, d⟩
    · unfold regsR at d
      split at d <;> omega
    · omega
/-- A row of cells: what each place has. -/
structure CellI (W : World) (G : Nat) (r0 r1 fr : Int) (s : Pl → Pl) (w : World) : Prop where
  kq : Kq G G G nilV nilV W w
  row : ∃ h : Nat → Int, w.rowIs G 3 200 (fun i => .int .i64 (h i)) ∧ ∀ q, MayP r0 r1 fr q → h (cellK q).toNat = cellK (s q)
theorem CellI.below {W : World} {G : Nat} {r0 r1 fr : Int} {s : Pl → Pl} {w w' : World} (k : CellI W G r0 r1 fr s w) (hb : Below w.heap.size w w') : CellI W G r0 r1 fr s w' := by
  obtain ⟨h, h1, h2⟩ := k.row
  exact ⟨k.kq.trans (Kq.of_below hb), h, h1.of_block (hb.block _ h1.lt), h2⟩
theorem CellI.start {W w : World} {G : Nat} {r0 r1 fr : Int} (h0 : r0 ≤ 10) (h1 : r1 ≤ 10) (hf : fr ≤ 50) (kq : Kq G G G nilV nilV W w) (r : w.rowIs G 3 200 (fun i => .int .i64 (i : Int))) : CellI W G r0 r1 fr id w := by
  refine ⟨kq, fun i => (i : Int), r, fun q hq => ?_⟩
  have := cellK_bd h0 h1 hf hq
  show ((cellK q).toNat : Int) = cellK q
  omega
theorem CellI.step {W : World} {G : Nat} {r0 r1 fr : Int} {s : Pl → Pl} {w : World} (h0 : r0 ≤ 10) (h1 : r1 ≤ 10) (hf : fr ≤ 50) (k : CellI W G r0 r1 fr s w) {x : Mv} (hx : LegalM r0 r1 fr x) {cd : Nat} (hcd : cellK x.dst = (cd : Int)) {hv : Int} (hval : hv = cellK (s x.src)) : CellI W G r0 r1 fr (doMv s x) (w.setCell ⟨G, cd, none⟩ (.int .i64 hv)) := by
  obtain ⟨h, r, hh⟩ := k.row
  refine ⟨⟨k.kq.os, k.kq.tape, k.kq.output, by simpa [World.setCell] using k.kq.size, fun q hq n1 n2 n3 n4 => (Below.heap_setCell _ _ _ _ (by show q ≠ G; exact n1)).trans (k.kq.block q hq n1 n2 n3 n4), k.kq.own⟩, fun i => if i = cd then hv else h i, (r.set cd _).congr fun i hi => ?_, fun q hq => ?_⟩
  · show (if i = cd then Value.int .i64 hv else _) = Value.int .i64 (if i = cd then hv else h i)
    split <;> rfl
  · show (if (cellK q).toNat = cd then hv else h (cellK q).toNat) = cellK (doMv s x q)
    unfold doMv
    by_cases e : q = x.dst
    · subst e
      rw [updP_same, if_pos (by omega), hval]
    · rw [updP_other e, if_neg fun e2 => e (cellK_inj h0 h1 hq hx.b ?_)]
      · exact hh q hq
      · have := cellK_bd h0 h1 hf hq
        omega
end Go.Proofs.Ytdlglinbjkaokab
