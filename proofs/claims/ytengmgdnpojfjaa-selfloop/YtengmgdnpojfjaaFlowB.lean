/-
  The contract of 'nearest': the nearest block at which all ways to a block meet, as far as is known.
-/
import Derived.Test.YtengmgdnpojfjaaFlowA
namespace Go.Proofs.Ytengmgdnpojfjaa
open Go.RowKit
set_option linter.unusedVariables false

/-- A cell that holds a slice of numbers. -/
def RRow (w : World) (cs : List Value) (l : List Int) : Prop := ∃ v, cs = [v] ∧ SlOf w 1 RInt v l
theorem RRow.below {w w' : World} (hb : Below w.heap.size w w') (cs : List Value) (x : List Int) (h : RRow w cs x) : RRow w' cs x := by
  obtain ⟨v, h1, h2⟩ := h
  exact ⟨v, h1, h2.below hb fun _ _ h => h⟩
theorem rows_at {w : World} {a : Option Addr} {n cap : Nat} {l : List (List Int)} (h : SlOf w 1 (RRow w) (.slice a n cap) l) (i : Int) (h0 : 0 ≤ i) (h1 : i < l.length) : ∃ b off a' c', a = some ⟨b, off, none⟩ ∧ b < w.heap.size ∧ w.cell? ⟨b, off + i.toNat, none⟩ = some (.slice a' (l.getD i.toNat []).length c') ∧ SlOf w 1 RInt (.slice a' (l.getD i.toNat []).length c') (l.getD i.toNat []) ∧ (l.getD i.toNat []).length ≤ longest := by
  obtain ⟨b, off, cs, rfl, hl, ⟨v, rfl, hR⟩, hc⟩ := h.at i.toNat (by omega)
  have hc0 := hc 0 (by simp)
  simp only [Nat.mul_one, Nat.add_zero, List.getElem_cons_zero] at hc0
  have e : l.getD i.toNat [] = l[i.toNat]'(by omega) := by rw [List.getD_eq_getElem?_getD, List.getElem?_eq_getElem (by omega)]; rfl
  obtain ⟨a', c', rfl, hl'⟩ := hR.out
  rw [e]
  exact ⟨b, off, a', c', rfl, block_lt hc0, hc0, hR, hl'⟩

theorem meetM_kn {n : Nat} {root : Int} {rank idom : Nat → Int} (hk : KT n root rank idom) : ∀ (k : Nat) (a b : Int), Kn n root idom a → Kn n root idom b → rank a.toNat + rank b.toNat < k → Kn n root idom (meetM rank idom k a b) ∧ rank (meetM rank idom k a b).toNat ≤ rank a.toNat ∧ rank (meetM rank idom k a b).toNat ≤ rank b.toNat
  | 0, a, b, ha, hb, h => by
    have := hk.rng a ha.1 ha.2.1
    have := hk.rng b hb.1 hb.2.1
    omega
  | k + 1, a, b, ha, hb, h => by
    simp only [meetM]
    have ra := hk.rng a ha.1 ha.2.1
    have rb := hk.rng b hb.1 hb.2.1
    by_cases hab : a = b
    · rw [if_pos hab]; exact ⟨ha, by omega, by rw [hab]; omega⟩
    · rw [if_neg hab]
      by_cases hgt : rank a.toNat > rank b.toNat
      · rw [if_pos hgt]
        have har : a ≠ root := by
          intro e
          have := hk.low b hb.1 hb.2.1
          rw [← e] at this
          omega
        have hup := hk.up a ha har
        have := meetM_kn hk k _ b hup.1 hb (by have := hup.2; omega)
        exact ⟨this.1, by have := hup.2; omega, this.2.2⟩
      · rw [if_neg hgt]
        have hbr : b ≠ root := by
          intro e
          have h1 := hk.low a ha.1 ha.2.1
          rw [← e] at h1
          exact hab (hk.inj a b ha.1 ha.2.1 hb.1 hb.2.1 (by omega))
        have hup := hk.up b hb hbr
        have := meetM_kn hk k a _ ha hup.1 (by have := hup.2; omega)
        exact ⟨this.1, this.2.1, by have := hup.2; omega⟩

theorem nearStep_kn {n : Nat} {root : Int} {rank idom : Nat → Int} (hk : KT n root rank idom) (next p : Int) (hn : next = -1 ∨ Kn n root idom next) (hp : 0 ≤ p ∧ p < n) :
    nearStep root rank idom n next p = -1 ∨ Kn n root idom (nearStep root rank idom n next p) := by
  unfold nearStep
  by_cases h : p ≠ root ∧ idom p.toNat = -1
  · rw [if_pos h]; exact hn
  · rw [if_neg h]
    have kp : Kn n root idom p := ⟨hp.1, hp.2, by by_cases e : p = root; exact Or.inl e; exact Or.inr fun e2 => h ⟨e, e2⟩⟩
    by_cases h1 : next = -1
    · rw [if_pos h1]; exact Or.inr kp
    · rw [if_neg h1]
      have hnx := hn.resolve_left h1
      have r1 := hk.rng _ hnx.1 hnx.2.1
      have r2 := hk.rng _ kp.1 kp.2.1
      exact Or.inr (meetM_kn hk _ _ _ hnx kp (by omega)).1

theorem meetUp_is (Pr Pi Rr Ri n : Nat) (root : Int) (rank idom : Nat → Int) (a0 b0 res : Int) (h : meetM rank idom (2 * n) a0 b0 = res) (w : World) (ht : TSt w Pr Pi Rr Ri n rank idom) (hk : KT n root rank idom) (ha : Kn n root idom a0) (hb : Kn n root idom b0) (hn : n ≤ 1000) :
    Calls Try.prog 54 #[.int .i64 a0, .int .i64 b0, .pointer (some ⟨Pr, 0, none⟩), .pointer (some ⟨Pi, 0, none⟩)] w fun e w' => e = .returned (.int .i64 res) ∧ Below w.heap.size w w' := by
  rw [← h]; exact meetUp_any Pr Pi Rr Ri n root rank idom a0 b0 w ht hk ha hb hn

theorem take_step {α β : Type} (f : β → α → β) (z : β) (l : List α) (k : Nat) (h : k < l.length) : (l.take (k + 1)).foldl f z = f ((l.take k).foldl f z) l[k] := by
  rw [List.take_succ_eq_append_getElem h, List.foldl_append]
  rfl

set_option maxHeartbeats 4000000 in
theorem nearest_any (Pr Pi Rr Ri n : Nat) (root : Int) (rank idom : Nat → Int) (preds : List (List Int)) (order : List Int) (ap ao : Option Addr) (cp co : Nat) (vd : Value) (b : Int) (w : World)
    (hp : SlOf w 1 (RRow w) (.slice ap n cp) preds) (hpl : preds.length = n) (ho : SlOf w 1 RInt (.slice ao n co) order) (hol : order.length = n) (hroot : order.getD 0 0 = root)
    (ht : TSt w Pr Pi Rr Ri n rank idom) (hk : KT n root rank idom) (hb0 : 0 ≤ b) (hb1 : b < n) (hin : ∀ p ∈ preds.getD b.toNat [], 0 ≤ p ∧ p < n) (hn : n ≤ 1000) :
    Calls Try.prog 55 #[.agg #[.slice ap n cp, .slice ao n co, vd], .int .i64 b, .slice (some ⟨Ri, 0, none⟩) n n, .func (.func 54) #[] #[.pointer (some ⟨Pr, 0, none⟩), .pointer (some ⟨Pi, 0, none⟩)]] w fun e w' => e = .returned (.int .i64 (nearM root rank idom n (preds.getD b.toNat []))) ∧ Below w.heap.size w w' := by
  have HK : Hid (KT n root rank idom) := hk
  have hn0 : 0 < n := by omega
  obtain ⟨bo, offo, rfl, hbo, hco⟩ := ints_at ho 0 (by omega) (by rw [hol]; omega)
  simp only [Int.toNat_zero, Nat.add_zero] at hco
  rw [hroot] at hco
  obtain ⟨bp, offp, al, cl, rfl, hbp, hcp, hl, hll⟩ := rows_at hp b hb0 (by rw [hpl]; omega)
  generalize preds.getD b.toNat [] = l at *
  unfold longest at hll
  have HIN : Hid (∀ p ∈ l, 0 ≤ p ∧ p < (n : Int)) := hin
  have HL : Hid (SlOf w 1 RInt (.slice al l.length cl) l) := hl
  have HT : Hid (TSt w Pr Pi Rr Ri n rank idom) := ht
  clear hp ho hk hin hl ht hroot hpl hol
  obtain ⟨W1, hW1⟩ : ∃ W1, W1 = w.alloc (.cells #[.slice (some ⟨bp, offp, none⟩) n cp, .slice (some ⟨bo, offo, none⟩) n co, vd] 59) := ⟨_, rfl⟩
  have hbw : Below w.heap.size w W1 := by rw [hW1]; exact (Below.refl _ _).alloc (Nat.le_refl _) _
  have d0 : W1.cell? ⟨w.heap.size, 0, none⟩ = some (.slice (some ⟨bp, offp, none⟩) n cp) := by rw [hW1]; simp
  have d1 : W1.cell? ⟨w.heap.size, 1, none⟩ = some (.slice (some ⟨bo, offo, none⟩) n co) := by rw [hW1]; simp
  have hz : w.heap.size < W1.heap.size := by rw [hW1]; simp
  have HW : Hid (W1 = w.alloc (.cells #[.slice (some ⟨bp, offp, none⟩) n cp, .slice (some ⟨bo, offo, none⟩) n co, vd] 59)) := hW1
  have hcp1 := (hbw.cell (p := ⟨bp, offp + b.toNat, none⟩) hbp).trans hcp
  clear hW1 hcp
  go_enter Try.func55, Try.ntmps55
  go_upto_region 2 with fail
  rw [← HW.out]
  go_wp2_with fail
  go_loopw [18, 9] (fun i x wr => ∃ (k : Nat) (next : Int), k ≤ l.length ∧ i = .int .i64 k ∧ x = .int .i64 next ∧ Below W1.heap.size W1 wr ∧ Hid (next = (l.take k).foldl (nearStep root rank idom n) (-1) ∧ (next = -1 ∨ Kn n root idom next))) (fun i _ _ => l.length - (intOf i).toNat)
  case atStart => exact ⟨0, -1, Nat.zero_le _, rfl, rfl, Below.refl _ _, rfl, Or.inl rfl⟩
  case round =>
    obtain ⟨k, next, hk, rfl, rfl, hbr, HI⟩ := hrel
    have f1 := (hbr.cell (p := ⟨w.heap.size, 1, none⟩) hz).trans d1
    have hbw' : Below w.heap.size w wr := hbw.trans (hbr.mono (Nat.le_of_lt hz))
    have c0 := (hbw'.cell (p := ⟨bo, offo, none⟩) hbo).trans hco
    clear d1
    by_cases hlt : k < l.length
    · obtain ⟨bl, offl, rfl, hbl, hcl⟩ := ints_at HL.out k (by omega) (by omega)
      have HS : Hid (nearStep root rank idom n next l[k] = (l.take (k + 1)).foldl (nearStep root rank idom n) (-1)) := by
        show _ = _
        rw [take_step _ _ _ _ hlt, HI.out.1]
      have hpi := HIN.out l[k] (List.getElem_mem hlt)
      have HS2 := nearStep_kn HK.out next l[k] HI.out.2 hpi
      have e : l.getD (k : Int).toNat 0 = l[k] := by simp [List.getD, hlt]
      rw [e] at hcl
      have c1 := (hbw'.cell (p := ⟨bl, offl + (k : Int).toNat, none⟩) hbl).trans hcl
      rw [Int.toNat_natCast] at c1
      have hT := HT.out.below hbw'
      have HN : Hid (nearStep root rank idom n next l[k] = (l.take (k + 1)).foldl (nearStep root rank idom n) (-1) ∧ (nearStep root rank idom n next l[k] = -1 ∨ Kn n root idom (nearStep root rank idom n next l[k]))) := ⟨HS.out, HS2⟩
      clear hcl e HS HS2
      obtain ⟨p, hpe⟩ : ∃ p, p = l[k] := ⟨_, rfl⟩
      rw [← hpe] at hpi HN c1
      clear hpe
      have ip0 := hpi.1
      have ip1 := hpi.2
      have c2 := row_at hT.ri ip0 ip1
      have HT' : Hid (TSt wr Pr Pi Rr Ri n rank idom) := hT
      clear hT hpi
      by_cases hr : p = root
      · have q1 : (p != root) = false := by simp [hr]
        have kp : Kn n root idom p := ⟨ip0, ip1, Or.inl hr⟩
        by_cases hx : next = -1
        · have q2 : (next == -1) = true := by simp [hx]
          have e2 : nearStep root rank idom n next p = p := by unfold nearStep; rw [if_neg (by simp [hr]), if_pos hx]
          rw [e2] at HN
          clear hr hx e2 kp HI
          go_wp2
          go_roundw
          case rel => exact ⟨k + 1, p, by omega, by go_num, rfl, hbr, HN⟩
          case measure => simp [intOf]; omega
        · have q2 : (next == -1) = false := by simp [hx]
          have e2 : nearStep root rank idom n next p = meetM rank idom (2 * n) next p := by unfold nearStep; rw [if_neg (by simp [hr]), if_neg hx]
          have kx := HI.out.2.resolve_left hx
          rw [e2] at HN
          obtain ⟨res, hres⟩ : ∃ res, meetM rank idom (2 * n) next p = res := ⟨_, rfl⟩
          rw [hres] at HN
          have HC := meetUp_is Pr Pi Rr Ri n root rank idom next p res hres wr HT'.out HK.out kx kp hn
          clear hr hx e2 kp HI kx hres
          go_wp2_with fail
          refine HC.mono ?_
          rintro e w2 ⟨rfl, hb2⟩
          go_wp2
          go_roundw
          case rel => exact ⟨k + 1, res, by omega, by go_num, rfl, hbr.trans (hb2.mono hbr.size), HN⟩
          case measure => simp [intOf]; omega
      · have q1 : (p != root) = true := by simp [hr]
        by_cases hd : idom p.toNat = -1
        · have q3 : (idom p.toNat == -1) = true := by simp [hd]
          have e2 : nearStep root rank idom n next p = next := by unfold nearStep; rw [if_pos ⟨hr, hd⟩]
          rw [e2] at HN
          clear hr hd e2 HI
          go_wp2
          go_roundw
          case rel => exact ⟨k + 1, next, by omega, by go_num, rfl, hbr, HN⟩
          case measure => simp [intOf]; omega
        · have q3 : (idom p.toNat == -1) = false := by simp [hd]
          have kp : Kn n root idom p := ⟨ip0, ip1, Or.inr hd⟩
          by_cases hx : next = -1
          · have q2 : (next == -1) = true := by simp [hx]
            have e2 : nearStep root rank idom n next p = p := by unfold nearStep; rw [if_neg (by simp [hd]), if_pos hx]
            rw [e2] at HN
            clear hr hx e2 kp HI hd
            go_wp2
            go_roundw
            case rel => exact ⟨k + 1, p, by omega, by go_num, rfl, hbr, HN⟩
            case measure => simp [intOf]; omega
          · have q2 : (next == -1) = false := by simp [hx]
            have e2 : nearStep root rank idom n next p = meetM rank idom (2 * n) next p := by unfold nearStep; rw [if_neg (by simp [hd]), if_neg hx]
            have kx := HI.out.2.resolve_left hx
            rw [e2] at HN
            obtain ⟨res, hres⟩ : ∃ res, meetM rank idom (2 * n) next p = res := ⟨_, rfl⟩
            rw [hres] at HN
            have HC := meetUp_is Pr Pi Rr Ri n root rank idom next p res hres wr HT'.out HK.out kx kp hn
            clear hr hx e2 kp HI kx hres hd
            go_wp2_with fail
            refine HC.mono ?_
            rintro e w2 ⟨rfl, hb2⟩
            go_wp2
            go_roundw
            case rel => exact ⟨k + 1, res, by omega, by go_num, rfl, hbr.trans (hb2.mono hbr.size), HN⟩
            case measure => simp [intOf]; omega
    · have H : Hid (next = nearM root rank idom n l) := by
        show _ = _
        rw [HI.out.1, List.take_of_length_le (by omega)]
        rfl
      clear HI
      go_wp2
      go_ret
      exact ⟨ret_int H.out, hbw'⟩
end Go.Proofs.Ytengmgdnpojfjaa
