/-
  Two small loops over a tree of dominators: where two ways up meet ('idoms', its closure), and whether one block dominates another ('dominates').
-/
import Derived.Test.YtengmgdnpojfjaaFlowM
namespace Go.Proofs.Ytengmgdnpojfjaa
open Go.RowKit
set_option linter.unusedVariables false

/-- Ranks and dominators lie in two rows, each behind a variable. -/
structure TSt (w : World) (Pr Pi Rr Ri n : Nat) (rank idom : Nat → Int) : Prop where
  pr : w.rowIs Pr 22 1 (fun _ => .slice (some ⟨Rr, 0, none⟩) n n)
  pi : w.rowIs Pi 22 1 (fun _ => .slice (some ⟨Ri, 0, none⟩) n n)
  rr : w.rowIs Rr 3 n (fun i => .int .i64 (rank i))
  ri : w.rowIs Ri 3 n (fun i => .int .i64 (idom i))
theorem TSt.below {w w' : World} {Pr Pi Rr Ri n : Nat} {rank idom : Nat → Int} (h : TSt w Pr Pi Rr Ri n rank idom) (hb : Below w.heap.size w w') : TSt w' Pr Pi Rr Ri n rank idom :=
  ⟨h.pr.of_block (hb.block _ h.pr.lt), h.pi.of_block (hb.block _ h.pi.lt), h.rr.of_block (hb.block _ h.rr.lt), h.ri.of_block (hb.block _ h.ri.lt)⟩

/-- A block that is known already. -/
def Kn (n : Nat) (root : Int) (idom : Nat → Int) (a : Int) : Prop := 0 ≤ a ∧ a < n ∧ (a = root ∨ idom a.toNat ≠ -1)
/-- What is known leads up to the root. -/
structure KT (n : Nat) (root : Int) (rank idom : Nat → Int) : Prop where
  up : ∀ a, Kn n root idom a → a ≠ root → Kn n root idom (idom a.toNat) ∧ rank (idom a.toNat).toNat < rank a.toNat
  inj : ∀ a b : Int, 0 ≤ a → a < n → 0 ≤ b → b < n → rank a.toNat = rank b.toNat → a = b
  rt : 0 ≤ root ∧ root < n
  low : ∀ a : Int, 0 ≤ a → a < n → rank root.toNat ≤ rank a.toNat
  rng : ∀ a : Int, 0 ≤ a → a < n → 0 ≤ rank a.toNat ∧ rank a.toNat < n

theorem row_at {w : World} {R t n : Nat} {f : Nat → Int} (h : w.rowIs R t n (fun i => .int .i64 (f i))) {a : Int} (h0 : 0 ≤ a) (h1 : a < n) : w.cell? ⟨R, a.toNat, none⟩ = some (.int .i64 (f a.toNat)) := h.cell (i := a.toNat) (by omega)

set_option maxHeartbeats 2000000 in
theorem meetUp_any (Pr Pi Rr Ri n : Nat) (root : Int) (rank idom : Nat → Int) (a0 b0 : Int) (w : World) (ht : TSt w Pr Pi Rr Ri n rank idom) (hk : KT n root rank idom) (ha : Kn n root idom a0) (hb : Kn n root idom b0) (hn : n ≤ 1000) :
    Calls Try.prog 54 #[.int .i64 a0, .int .i64 b0, .pointer (some ⟨Pr, 0, none⟩), .pointer (some ⟨Pi, 0, none⟩)] w fun e w' => e = .returned (.int .i64 (meetM rank idom (2 * n) a0 b0)) ∧ Below w.heap.size w w' := by
  have HT : Hid (TSt w Pr Pi Rr Ri n rank idom) := ht
  have HK : Hid (KT n root rank idom) := hk
  have HA : Hid (Kn n root idom a0 ∧ Kn n root idom b0) := ⟨ha, hb⟩
  clear ht hk ha hb
  generalize hres : meetM rank idom (2 * n) a0 b0 = res
  have HR : Hid (meetM rank idom (2 * n) a0 b0 = res) := hres
  clear hres
  go_enter Try.func54, Try.ntmps54
  go_wp2
  go_loopw [0, 1] (fun x y wr => ∃ (a b : Int) (k : Nat), x = .int .i64 a ∧ y = .int .i64 b ∧ Below w.heap.size w wr ∧ Hid (Kn n root idom a ∧ Kn n root idom b ∧ rank a.toNat + rank b.toNat < k ∧ meetM rank idom k a b = res)) (fun x y _ => (rank (intOf x).toNat).toNat + (rank (intOf y).toNat).toNat)
  case atStart =>
    refine ⟨a0, b0, 2 * n, rfl, rfl, Below.refl _ _, HA.out.1, HA.out.2, ?_, HR.out⟩
    have := HK.out.rng _ HA.out.1.1 HA.out.1.2.1
    have := HK.out.rng _ HA.out.2.1 HA.out.2.2.1
    omega
  case round =>
    obtain ⟨a, b, k, rfl, rfl, hbr, HI⟩ := hrel
    have hT := HT.out.below hbr
    have hra := HK.out.rng _ HI.out.1.1 HI.out.1.2.1
    have hrb := HK.out.rng _ HI.out.2.1.1 HI.out.2.1.2.1
    obtain ⟨k, rfl⟩ : ∃ k', k = k' + 1 := ⟨k - 1, by have := HI.out.2.2.1; omega⟩
    have c1 := hT.pr.cell (i := 0) (by omega)
    have c2 := hT.pi.cell (i := 0) (by omega)
    have ia0 := HI.out.1.1
    have ia1 := HI.out.1.2.1
    have ib0 := HI.out.2.1.1
    have ib1 := HI.out.2.1.2.1
    have c3 := row_at hT.rr ia0 ia1
    have c4 := row_at hT.rr ib0 ib1
    have c5 := row_at hT.ri ia0 ia1
    have c6 := row_at hT.ri ib0 ib1
    clear hT
    by_cases hab : a = b
    · have hne : (a != b) = false := by simp [hab]
      have H : Hid (a = res) := by show _ = _; rw [← HI.out.2.2.2]; simp [meetM, hab]
      clear hab HI
      go_wp2
      go_ret
      exact ⟨ret_int H.out, hbr⟩
    · have hne : (a != b) = true := by simp [hab]
      by_cases hgt : rank a.toNat > rank b.toNat
      · have hgt' : (decide (rank b.toNat < rank a.toNat)) = true := by simp; omega
        have har : a ≠ root := by
          intro e
          have := HK.out.low b ib0 ib1
          rw [← e] at this
          omega
        have hup := HK.out.up a HI.out.1 har
        have HN : Hid (Kn n root idom (idom a.toNat) ∧ Kn n root idom b ∧ rank (idom a.toNat).toNat + rank b.toNat < k ∧ meetM rank idom k (idom a.toNat) b = res) := by
          refine ⟨hup.1, HI.out.2.1, by have := HI.out.2.2.1; have := hup.2; omega, ?_⟩
          rw [← HI.out.2.2.2]
          simp only [meetM]
          rw [if_neg hab, if_pos hgt]
        have HM : Hid ((rank (idom a.toNat).toNat).toNat < (rank a.toNat).toNat) := by
          show _ < _
          have h1 := hup.2
          omega
        clear hab hup har
        go_wp2_with fail
        go_quiet (fail)
        go_wp2
        go_roundw
        case rel => exact ⟨_, _, k, rfl, rfl, below_drewN hbr _, HN⟩
        case measure => have := HM.out; simp [intOf]; omega
      · have hgt' : (decide (rank b.toNat < rank a.toNat)) = false := by simp; omega
        have hbr' : b ≠ root := by
          intro e
          have h1 := HK.out.low a ia0 ia1
          rw [← e] at h1
          exact hab (HK.out.inj a b ia0 ia1 ib0 ib1 (by omega))
        have hup := HK.out.up b HI.out.2.1 hbr'
        have HN : Hid (Kn n root idom a ∧ Kn n root idom (idom b.toNat) ∧ rank a.toNat + rank (idom b.toNat).toNat < k ∧ meetM rank idom k a (idom b.toNat) = res) := by
          refine ⟨HI.out.1, hup.1, by have := HI.out.2.2.1; have := hup.2; omega, ?_⟩
          rw [← HI.out.2.2.2]
          simp only [meetM]
          rw [if_neg hab, if_neg hgt]
        have HM : Hid ((rank (idom b.toNat).toNat).toNat < (rank b.toNat).toNat) := by
          show _ < _
          have h1 := hup.2
          have h2 := HK.out.rng _ hup.1.1 hup.1.2.1
          omega
        clear hab hup hbr'
        go_wp2_with fail
        go_quiet (fail)
        go_wp2
        go_roundw
        case rel => exact ⟨_, _, k, rfl, rfl, below_drewN hbr _, HN⟩
        case measure => have := HM.out; simp [intOf]; omega

/-- Dominators lie in a row; each is nobody, or of lower rank. -/
structure DomOk (n : Nat) (rank idom : Nat → Int) : Prop where
  up : ∀ a : Int, 0 ≤ a → a < n → idom a.toNat = -1 ∨ (0 ≤ idom a.toNat ∧ idom a.toNat < n ∧ rank (idom a.toNat).toNat < rank a.toNat)
  rng : ∀ a : Int, 0 ≤ a → a < n → 0 ≤ rank a.toNat ∧ rank a.toNat < n

/-- A slice reads as so many numbers. -/
theorem ints_at {w : World} {a : Option Addr} {n cap : Nat} {l : List Int} (h : SlOf w 1 RInt (.slice a n cap) l) (i : Int) (h0 : 0 ≤ i) (h1 : i < l.length) : ∃ b off, a = some ⟨b, off, none⟩ ∧ b < w.heap.size ∧ w.cell? ⟨b, off + i.toNat, none⟩ = some (.int .i64 (l.getD i.toNat 0)) := by
  obtain ⟨b, off, cs, rfl, hl, hR, hc⟩ := h.at i.toNat (by omega)
  unfold RInt at hR
  subst hR
  have hc0 := hc 0 (by simp)
  simp only [Nat.mul_one, Nat.add_zero, List.getElem_cons_zero] at hc0
  refine ⟨b, off, rfl, block_lt hc0, ?_⟩
  rw [hc0, List.getD_eq_getElem?_getD, List.getElem?_eq_getElem (by omega)]
  rfl
/-- The slots of a function are a list. -/
def fnL (n : Nat) (f : Nat → Int) : List Int := (List.range n).map f
theorem fnL_length (n : Nat) (f : Nat → Int) : (fnL n f).length = n := by simp [fnL]
theorem fnL_getD (n : Nat) (f : Nat → Int) (i : Nat) (h : i < n) : (fnL n f).getD i 0 = f i := by simp [fnL, List.getD, h]

def upZ (rank : Nat → Int) (b : Int) : Nat := if b = -1 then 0 else (rank b.toNat).toNat + 1
set_option maxHeartbeats 2000000 in
theorem dominates_any (n : Nat) (rank idom : Nat → Int) (vp vo : Value) (ad : Option Addr) (cd : Nat) (a b0 : Int) (w : World) (hd : SlOf w 1 RInt (.slice ad n cd) (fnL n idom)) (hk : DomOk n rank idom) (hb0 : -1 ≤ b0) (hb1 : b0 < n) (hn : n ≤ 1000) :
    Calls Try.prog 64 #[.agg #[vp, vo, .slice ad n cd], .int .i64 a, .int .i64 b0] w fun e w' => e = .returned (.bool (domM idom (n + 1) a b0)) ∧ Below w.heap.size w w' := by
  have HK : Hid (DomOk n rank idom) := hk
  have HD : Hid (SlOf w 1 RInt (.slice ad n cd) (fnL n idom)) := hd
  have HB : Hid (-1 ≤ b0 ∧ b0 < n) := ⟨hb0, hb1⟩
  clear hk hd hb0 hb1
  generalize hres : domM idom (n + 1) a b0 = res
  have HR : Hid (domM idom (n + 1) a b0 = res) := hres
  clear hres
  obtain ⟨W1, hW1⟩ : ∃ W1, W1 = w.alloc (.cells #[vp, vo, .slice ad n cd] 59) := ⟨_, rfl⟩
  have hbw : Below w.heap.size w W1 := by rw [hW1]; exact (Below.refl _ _).alloc (Nat.le_refl _) _
  have d2 : W1.cell? ⟨w.heap.size, 2, none⟩ = some (.slice ad n cd) := by rw [hW1]; simp
  have hz : w.heap.size < W1.heap.size := by rw [hW1]; simp
  have HW : Hid (W1 = w.alloc (.cells #[vp, vo, .slice ad n cd] 59)) := hW1
  clear hW1
  go_enter Try.func64, Try.ntmps64
  go_wp2_with fail
  rw [← HW.out]
  go_loopw [2] (fun x wr => ∃ (b : Int) (k : Nat), x = .int .i64 b ∧ Below W1.heap.size W1 wr ∧ Hid (-1 ≤ b ∧ b < n ∧ (0 ≤ b → rank b.toNat + 1 < k) ∧ 0 < k ∧ domM idom k a b = res)) (fun x _ => upZ rank (intOf x))
  case atStart =>
    refine ⟨b0, n + 1, rfl, Below.refl _ _, HB.out.1, HB.out.2, ?_, by omega, HR.out⟩
    intro h
    have := HK.out.rng _ h HB.out.2
    omega
  case round =>
    obtain ⟨b, k, rfl, hbr, HI⟩ := hrel
    have f2 := (hbr.cell (p := ⟨w.heap.size, 2, none⟩) hz).trans d2
    have hbw' : Below w.heap.size w wr := hbw.trans (hbr.mono (Nat.le_of_lt hz))
    obtain ⟨k, rfl⟩ : ∃ k', k = k' + 1 := ⟨k - 1, by have := HI.out.2.2.2.1; omega⟩
    by_cases hm : b = -1
    · have hne : (b != -1) = false := by simp [hm]
      have H : Hid ((b == a) = res) := by show _ = _; rw [← HI.out.2.2.2.2]; simp only [domM]; rw [if_pos (Or.inl hm)]; rfl
      clear hm HI
      go_wp2
      go_ret
      exact ⟨ret_bool H.out, hbw'⟩
    · have hne : (b != -1) = true := by simp [hm]
      by_cases he : b = a
      · have hne2 : (b != a) = false := by simp [he]
        have H : Hid ((b == a) = res) := by show _ = _; rw [← HI.out.2.2.2.2]; simp only [domM]; rw [if_pos (Or.inr he)]; rfl
        clear hm HI he
        go_wp2
        go_ret
        exact ⟨ret_bool H.out, hbw'⟩
      · have hne2 : (b != a) = true := by simp [he]
        have ib0 : 0 ≤ b := by have := HI.out.1; omega
        have ib1 := HI.out.2.1
        obtain ⟨bb, off, rfl, hbb, hc⟩ := ints_at HD.out b ib0 (by rw [fnL_length]; exact ib1)
        rw [fnL_getD _ _ _ (by omega)] at hc
        have c1 := (hbw'.cell (p := ⟨bb, off + b.toNat, none⟩) hbb).trans hc
        have hup := HK.out.up b ib0 ib1
        have hrb := HK.out.rng b ib0 ib1
        have HN : Hid (-1 ≤ idom b.toNat ∧ idom b.toNat < n ∧ (0 ≤ idom b.toNat → rank (idom b.toNat).toNat + 1 < k) ∧ 0 < k ∧ domM idom k a (idom b.toNat) = res) := by
          have h3 := HI.out.2.2.1 ib0
          refine ⟨by omega, by omega, fun h => by rcases hup with h4 | h4 <;> omega, by omega, ?_⟩
          rw [← HI.out.2.2.2.2]
          simp only [domM]
          rw [if_neg (by simp [hm, he])]
        have HM : Hid ((if idom b.toNat = -1 then 0 else (rank (idom b.toNat).toNat).toNat + 1) < (rank b.toNat).toNat + 1) := by
          show _ < _
          split
          · omega
          · rcases hup with h4 | h4
            · contradiction
            · have := HK.out.rng _ h4.1 h4.2.1
              omega
        have hm' : Hid (b ≠ -1) := hm
        clear hm he hup hc
        go_wp2
        go_roundw
        case rel => exact ⟨_, k, rfl, hbr, HN⟩
        case measure => show upZ rank (idom b.toNat) < upZ rank b; unfold upZ; rw [if_neg hm'.out]; exact HM.out
end Go.Proofs.Ytengmgdnpojfjaa
