/-
  The contract of 'checker.edge': which error an edge has (P1.8), for whatever values and blocks.
  The contract of 'checker.block': which error a block has (P1.3 to P1.8), where the values' classes are 0 or 1.
  The contract of the closure that marks what is made (P1.9): which error a value has, and what is marked behind it.
-/
import Derived.Test.YtglfpnnfcpnmoaaA1
import Derived.Deep.RegionWith
import Derived.Test.YtglfpnnfcpnmoaaA2
import Derived.Deep.OwnRows
namespace Go.Proofs.Ytglfpnnfcpnmoaa
open Go.RowKit
set_option linter.unusedVariables false

def argsErr (values : List Int) : List Int → List Int → Int
  | a :: r, p :: q => if isValueB values.length a = false then 2 else if isValueB values.length p = false ∨ ¬ classAt values a = classAt values p then 17 else argsErr values r q
  | _, _ => 0
def edgeErr (values : List Int) (blocks : List Blk) (e : Edg) : Int :=
  if e.block ≤ 0 ∨ (blocks.length : Int) ≤ e.block then 6
  else match blocks[e.block.toNat]? with
    | none => 6
    | some b => if e.args.length = b.params.length then argsErr values e.args b.params else 4

theorem int_cell {w : World} {aa : Option Addr} {ca n : Nat} {l : List Int} (ha : SlOf w 1 RInt (.slice aa n ca) l) (i : Nat) (hi : i < l.length) :
    ∃ b off, aa = some ⟨b, off, none⟩ ∧ b < w.heap.size ∧ w.cell? ⟨b, off + i, none⟩ = some (.int .i64 l[i]) := by
  obtain ⟨b, off, cs, h1, h2, h3, h4⟩ := ha.at i hi
  unfold RInt at h3
  subst h3
  have c0 := h4 0 (by simp)
  simp at c0
  exact ⟨b, off, h1, block_lt c0, c0⟩

theorem isValue_bl (av : Option Addr) (n cv : Nat) (vb : Value) (m0 m1 v : Int) (b : Bool) (h : isValueB n v = b) (w : World) :
    Calls Try.prog 58 #[.agg #[.slice av n cv, vb, .int .i64 m0, .int .i64 m1], .int .i64 v] w fun e w' => e = .returned (.bool b) ∧ Below w.heap.size w w' := by
  refine (isValue_is av n cv vb m0 m1 v b h w).mono ?_
  rintro e w' ⟨rfl, rfl⟩
  exact ⟨rfl, (Below.refl _ _).alloc (Nat.le_refl _) _⟩

/-- A world that S holds of. -/
structure InS (S : World → Prop) where
  val : World
  ok : S val
theorem wp_region_class {P : Program} {S : World → Prop} {id : Nat} {Q : Exit → Act → World → Prop} {a : Act} {w : World} {l : List Oper} (hm : P.follows .mixedOrders = true) (hB : Region.lexB .any l.toArray = true) (hC : S w.drew)
    (h : wpQuiet P l.toArray (fun w' => ∃ s : InS S, w' = s.val) (fun a' => ∀ w', (∃ s : InS S, w' = s.val) → Q .normal a' w') l a) : (Code.region id l.toArray true).wp P Q a w :=
  wp_region_quiet (C := fun w' => ∃ s : InS S, w' = s.val) hm hB ⟨⟨w.drew, hC⟩, rfl⟩ (by simpa using h)

/-- What the drawn region reads: a checker, a param's cell. -/
def EdgeS (b0 B : Nat) (W : World) (vv vb : Value) (m0 m1 : Int) (bp op : Nat) (p : Int) (wx : World) : Prop :=
  ChkAt wx b0 vv vb m0 m1 ∧ (bp < wx.heap.size ∧ wx.cell? ⟨bp, op, none⟩ = some (.int .i64 p)) ∧ B ≤ wx.heap.size ∧ Below B W wx
theorem EdgeS.below {b0 B : Nat} {W : World} {vv vb : Value} {m0 m1 : Int} {bp op : Nat} {p : Int} {wx w' : World} (h : EdgeS b0 B W vv vb m0 m1 bp op p wx) (hb : Below wx.heap.size wx w') : EdgeS b0 B W vv vb m0 m1 bp op p w' := by
  obtain ⟨h1, ⟨h2, h3⟩, h4, h5⟩ := h
  exact ⟨h1.below hb h1.1, ⟨Nat.lt_of_lt_of_le h2 hb.size, (hb.cell h2).trans h3⟩, Nat.le_trans h4 hb.size, h5.trans (hb.mono h4)⟩

set_option maxHeartbeats 4000000 in
theorem edge_any (values : List Int) (av : Option Addr) (cv : Nat) (blocks : List Blk) (ab : Option Addr) (cb : Nat) (m0 m1 : Int) (e : Edg) (aa : Option Addr) (ca : Nat) (w : World) (hv : SlOf w 1 RInt (.slice av values.length cv) values)
    (hbl : SlOf w 3 (RBlk w) (.slice ab blocks.length cb) blocks) (ha : SlOf w 1 RInt (.slice aa e.args.length ca) e.args) :
    Calls Try.prog 56 #[.agg #[.slice av values.length cv, .slice ab blocks.length cb, .int .i64 m0, .int .i64 m1], .agg #[.int .i64 e.block, .slice aa e.args.length ca]] w fun r w' => r = .returned (.int .i64 (edgeErr values blocks e)) ∧ Below w.heap.size w w' := by
  obtain ⟨_, _, _, lv⟩ := hv.out
  obtain ⟨_, _, _, lb⟩ := hbl.out
  obtain ⟨_, _, _, la⟩ := ha.out
  unfold longest at lv lb la
  have hb2 : Below w.heap.size w ((w.alloc (.cells #[.slice av values.length cv, .slice ab blocks.length cb, .int .i64 m0, .int .i64 m1] 106)).alloc (.cells #[.int .i64 e.block, .slice aa e.args.length ca] 92)) := ((Below.refl _ _).alloc (Nat.le_refl _) _).alloc (by simp) _
  by_cases h0 : e.block ≤ 0
  · have H : Hid (6 = edgeErr values blocks e) := by show _ = _; unfold edgeErr; rw [if_pos (Or.inl h0)]
    go_enter Try.func56, Try.ntmps56
    go_wp2
    go_ret
    exact ⟨ret_int H.out, hb2⟩
  · by_cases h1 : (blocks.length : Int) ≤ e.block
    · have H : Hid (6 = edgeErr values blocks e) := by show _ = _; unfold edgeErr; rw [if_pos (Or.inr h1)]
      go_enter Try.func56, Try.ntmps56
      go_wp2
      go_ret
      exact ⟨ret_int H.out, hb2⟩
    · have hi : e.block.toNat < blocks.length := by omega
      have hg : blocks[e.block.toNat]? = some blocks[e.block.toNat] := List.getElem?_eq_getElem hi
      have hE : edgeErr values blocks e = if e.args.length = blocks[e.block.toNat].params.length then argsErr values e.args blocks[e.block.toNat].params else 4 := by unfold edgeErr; rw [if_neg (by omega), hg]
      obtain ⟨b3, off3, cs, rfl, hcl, ⟨vp, vi, ve, rfl, hp, _, _⟩, hc⟩ := hbl.at e.block.toNat hi
      have c0 := hc 0 (by simp)
      simp at c0
      have hb3 := block_lt c0
      obtain ⟨ap, cp, rfl, lp⟩ := hp.out
      generalize blocks[e.block.toNat].params = params at *
      unfold longest at lp
      clear hg hc hcl
      have L3 := old_cell b3
      have e31 : b3 < w.heap.size + 1 := by omega
      have n0 : 0 ≤ e.block := by omega
      have n1 : e.block < (blocks.length : Int) := by omega
      by_cases h2 : e.args.length = params.length
      · rw [if_pos h2] at hE
        have HE : Hid (edgeErr values blocks e = argsErr values e.args params) := hE
        have q2 : ((e.args.length : Int) != (params.length : Int)) = false := by simp [h2]
        have H2 : Hid (e.args.length = params.length) := h2
        clear hE h2
        obtain ⟨W2, hW2⟩ : ∃ W2, W2 = (w.alloc (.cells #[.slice av values.length cv, .slice (some ⟨b3, off3, none⟩) blocks.length cb, .int .i64 m0, .int .i64 m1] 106)).alloc (.cells #[.int .i64 e.block, .slice aa e.args.length ca] 92) := ⟨_, rfl⟩
        have hbw2 : Below w.heap.size w W2 := by rw [hW2]; exact hb2
        have HC : ChkAt W2 w.heap.size (.slice av values.length cv) (.slice (some ⟨b3, off3, none⟩) blocks.length cb) m0 m1 := by rw [hW2]; exact ⟨by simp; omega, by simp, by simp, by simp, by simp⟩
        have HW : Hid (W2 = (w.alloc (.cells #[.slice av values.length cv, .slice (some ⟨b3, off3, none⟩) blocks.length cb, .int .i64 m0, .int .i64 m1] 106)).alloc (.cells #[.int .i64 e.block, .slice aa e.args.length ca] 92)) := hW2
        clear hW2 hb2
        go_enter Try.func56, Try.ntmps56
        go_wp2
        clear c0 L3 e31
        go_loopw [37] (fun i wr => ∃ k : Nat, k ≤ e.args.length ∧ i = .int .i64 k ∧ Below (w.heap.size + 1 + 1) W2 wr ∧ w.heap.size + 1 < wr.heap.size ∧ Hid (argsErr values (e.args.drop k) (params.drop k) = argsErr values e.args params)) (fun i _ => e.args.length - (intOf i).toNat)
        case atStart => exact ⟨0, Nat.zero_le _, rfl, by rw [HW.out]; exact Below.refl _ _, by simp, rfl⟩
        case round =>
          obtain ⟨k, hk, rfl, hbr, hz, HK⟩ := hrel
          have hbwr : Below w.heap.size w wr := hbw2.trans (hbr.mono (by omega))
          have hlen := H2.out
          by_cases hlt : k < e.args.length
          · have hltp : k < params.length := by omega
            obtain ⟨_, g0, g1, g2, g3⟩ := HC.below hbr (by omega)
            have HK' : Hid (argsErr values (e.args[k] :: e.args.drop (k + 1)) (params[k] :: params.drop (k + 1)) = argsErr values e.args params) := by rw [← List.drop_eq_getElem_cons hlt, ← List.drop_eq_getElem_cons hltp]; exact HK
            clear HK
            obtain ⟨ba, offa, rfl, hba, a0⟩ := int_cell (ha.below hbwr fun _ _ h => h) k hlt
            obtain ⟨bp, offp, rfl, hbp, p0⟩ := int_cell (hp.below hbwr fun _ _ h => h) k hltp
            have hvr := hv.below hbwr fun _ _ h => h
            generalize e.args[k] = a at *
            generalize params[k] = p at *
            clear hlen
            have L0 := old_cell w.heap.size
            have Lp := old_cell bp
            have lw : w.heap.size < wr.heap.size := by omega
            have i0 : (0 : Int) ≤ (k : Int) := by omega
            have i1 : (k : Int) < (e.args.length : Int) := by omega
            have i2 : (k : Int) < (params.length : Int) := by omega
            cases hval : isValueB values.length a
            · have H : Hid (2 = edgeErr values blocks e) := by
                show _ = _
                rw [HE.out, ← HK'.out]
                unfold argsErr
                rw [if_pos hval]
              clear HK'
              go_wp2_with (go_at_call 58; refine (isValue_is _ _ _ _ _ _ _ false hval _).mono ?_; rintro e w' ⟨rfl, rfl⟩)
              go_ret
              exact ⟨ret_int H.out, hbwr.alloc (by omega) _⟩
            · cases hvp : isValueB values.length p
              · have H : Hid (17 = edgeErr values blocks e) := by
                  show _ = _
                  rw [HE.out, ← HK'.out]
                  unfold argsErr
                  rw [if_neg (by simp [hval]), if_pos (Or.inl hvp)]
                clear HK'
                go_wp2_with (go_at_call 58; refine (isValue_is _ _ _ _ _ _ _ true hval _).mono ?_; rintro e w' ⟨rfl, rfl⟩)
                have hS : EdgeS w.heap.size (w.heap.size + 1 + 1) W2 (.slice av values.length cv) (.slice (some ⟨b3, off3, none⟩) blocks.length cb) m0 m1 bp (offp + k) p (wr.alloc (.cells #[.slice av values.length cv, .slice (some ⟨b3, off3, none⟩) blocks.length cb, .int .i64 m0, .int .i64 m1] 106)).drew :=
                  ⟨⟨by simp; omega, by go_simp, by go_simp, by go_simp, by go_simp⟩, ⟨by simp; omega, by go_simp⟩, by simp; omega, (hbr.alloc (by omega) _).drew⟩
                generalize hW3 : wr.alloc (.cells #[.slice av values.length cv, .slice (some ⟨b3, off3, none⟩) blocks.length cb, .int .i64 m0, .int .i64 m1] 106) = W3 at hS ⊢
                clear hW3
                have hne : Nonempty (InS (EdgeS w.heap.size (w.heap.size + 1 + 1) W2 (.slice av values.length cv) (.slice (some ⟨b3, off3, none⟩) blocks.length cb) m0 m1 bp (offp + k) p)) := ⟨⟨_, hS⟩⟩
                have t0 : ∀ s : InS (EdgeS w.heap.size (w.heap.size + 1 + 1) W2 (.slice av values.length cv) (.slice (some ⟨b3, off3, none⟩) blocks.length cb) m0 m1 bp (offp + k) p), s.val.cell? ⟨w.heap.size, 0, none⟩ = some (.slice av values.length cv) := fun s => s.ok.1.2.1
                have t1 : ∀ s : InS (EdgeS w.heap.size (w.heap.size + 1 + 1) W2 (.slice av values.length cv) (.slice (some ⟨b3, off3, none⟩) blocks.length cb) m0 m1 bp (offp + k) p), s.val.cell? ⟨w.heap.size, 1, none⟩ = some (.slice (some ⟨b3, off3, none⟩) blocks.length cb) := fun s => s.ok.1.2.2.1
                have t2 : ∀ s : InS (EdgeS w.heap.size (w.heap.size + 1 + 1) W2 (.slice av values.length cv) (.slice (some ⟨b3, off3, none⟩) blocks.length cb) m0 m1 bp (offp + k) p), s.val.cell? ⟨w.heap.size, 2, none⟩ = some (.int .i64 m0) := fun s => s.ok.1.2.2.2.1
                have t3 : ∀ s : InS (EdgeS w.heap.size (w.heap.size + 1 + 1) W2 (.slice av values.length cv) (.slice (some ⟨b3, off3, none⟩) blocks.length cb) m0 m1 bp (offp + k) p), s.val.cell? ⟨w.heap.size, 3, none⟩ = some (.int .i64 m1) := fun s => s.ok.1.2.2.2.2
                have t4 : ∀ s : InS (EdgeS w.heap.size (w.heap.size + 1 + 1) W2 (.slice av values.length cv) (.slice (some ⟨b3, off3, none⟩) blocks.length cb) m0 m1 bp (offp + k) p), s.val.cell? ⟨bp, offp + k, none⟩ = some (.int .i64 p) := fun s => s.ok.2.1.2
                refine wp_region_class (S := EdgeS w.heap.size (w.heap.size + 1 + 1) W2 (.slice av values.length cv) (.slice (some ⟨b3, off3, none⟩) blocks.length cb) m0 m1 bp (offp + k) p) (by kernel_rfl) (by kernel_rfl) hS ?_
                repeat (go_big_quiet_step ((go_at_call 58; exact (isValue_bl _ _ _ _ _ _ _ false hvp _).mono (fun e w' he => ⟨he.1, ⟨w', EdgeS.below (InS.ok _) he.2⟩, rfl⟩))))
                refine wpQuiet_nil ?_
                intro _ hw'
                obtain ⟨s, hw''⟩ := hw'
                subst hw''
                have hsb := s.ok.2.2.2
                go_wp2
                go_ret
                exact ⟨ret_int H.out, hbw2.trans (hsb.mono (by omega))⟩
              · obtain ⟨bb, off, rfl, hcell, hbb, v0, v1⟩ := classAt_cell hvr a hval
                obtain ⟨bb', off', hav, hcell', hbb', v0', v1'⟩ := classAt_cell hvr p hvp
                simp only [Option.some.injEq, Addr.mk.injEq] at hav
                obtain ⟨rfl, rfl, _⟩ := hav
                have hbW := hbr.alloc (by omega) (.cells #[.slice (some ⟨bb, off, none⟩) values.length cv, .slice (some ⟨b3, off3, none⟩) blocks.length cb, .int .i64 m0, .int .i64 m1] 106)
                have Lb := old_cell bb
                have s1 : bb < wr.heap.size + 1 := by omega
                have s2 : bp < wr.heap.size + 1 := by omega
                have s3 : w.heap.size < wr.heap.size + 1 := by omega
                have s4 : w.heap.size + 1 < wr.heap.size + 1 := by omega
                by_cases hcl : classAt values a = classAt values p
                · have H : Hid (argsErr values (e.args.drop (k + 1)) (params.drop (k + 1)) = argsErr values e.args params) := by
                    show _ = _
                    rw [← HK'.out]
                    conv => rhs; unfold argsErr
                    rw [if_neg (by simp [hval]), if_neg (by simp [hvp, hcl])]
                  have q : (classAt values a != classAt values p) = false := by simpa using hcl
                  clear HK' hcl
                  go_wp2_with (go_at_call 58; refine (isValue_is _ _ _ _ _ _ _ true hval _).mono ?_; rintro e w' ⟨rfl, rfl⟩)
                  go_region_held3 (fun wx => wx.cell? ⟨w.heap.size, 0, none⟩ = some (.slice (some ⟨bb, off, none⟩) values.length cv) ∧ wx.cell? ⟨w.heap.size, 1, none⟩ = some (.slice (some ⟨b3, off3, none⟩) blocks.length cb) ∧ wx.cell? ⟨w.heap.size, 2, none⟩ = some (.int .i64 m0) ∧ wx.cell? ⟨w.heap.size, 3, none⟩ = some (.int .i64 m1) ∧ wx.cell? ⟨bp, offp + k, none⟩ = some (.int .i64 p) ∧ wx.cell? ⟨bb, off + a.toNat, none⟩ = some (.int .i64 (classAt values a)) ∧ wx.cell? ⟨bb, off + p.toNat, none⟩ = some (.int .i64 (classAt values p)) ∧ w.heap.size < wx.heap.size ∧ w.heap.size + 1 < wx.heap.size ∧ bp < wx.heap.size ∧ bb < wx.heap.size ∧ Below (w.heap.size + 1 + 1) W2 wx) (((try (dsimp only at *)); (try go_split_ands); (repeat' apply And.intro); all_goals (first | assumption | (simp [*]; done) | (go_simp; done) | (simp; omega) | (exact hbW.drew) | (exact (hbW.drew.cell (p := ⟨_, _, none⟩) (by assumption)).trans (by assumption)) | (exact (hb.cell (p := ⟨_, _, none⟩) (by assumption)).trans (by assumption)) | (exact Nat.lt_of_lt_of_le (by assumption) hb.size) | (exact (‹Below (w.heap.size + 1 + 1) W2 _›).trans (hb.mono (by first | omega | (simp; omega)))))))
                    (first | (go_at_call 58; refine (isValue_bl _ _ _ _ _ _ _ true hvp _).mono ?_; rintro e w' ⟨rfl, hb⟩))
                  go_split_ands
                  go_wp2
                  go_roundw
                  case rel => exact ⟨k + 1, by omega, by go_num, by assumption, by assumption, H⟩
                  case measure => simp [intOf]; omega
                · have H : Hid (17 = edgeErr values blocks e) := by
                    show _ = _
                    rw [HE.out, ← HK'.out]
                    unfold argsErr
                    rw [if_neg (by simp [hval]), if_pos (Or.inr hcl)]
                  have q : (classAt values a != classAt values p) = true := by simpa using hcl
                  clear HK' hcl
                  go_wp2_with (go_at_call 58; refine (isValue_is _ _ _ _ _ _ _ true hval _).mono ?_; rintro e w' ⟨rfl, rfl⟩)
                  go_region_held3 (fun wx => wx.cell? ⟨w.heap.size, 0, none⟩ = some (.slice (some ⟨bb, off, none⟩) values.length cv) ∧ wx.cell? ⟨w.heap.size, 1, none⟩ = some (.slice (some ⟨b3, off3, none⟩) blocks.length cb) ∧ wx.cell? ⟨w.heap.size, 2, none⟩ = some (.int .i64 m0) ∧ wx.cell? ⟨w.heap.size, 3, none⟩ = some (.int .i64 m1) ∧ wx.cell? ⟨bp, offp + k, none⟩ = some (.int .i64 p) ∧ wx.cell? ⟨bb, off + a.toNat, none⟩ = some (.int .i64 (classAt values a)) ∧ wx.cell? ⟨bb, off + p.toNat, none⟩ = some (.int .i64 (classAt values p)) ∧ w.heap.size < wx.heap.size ∧ w.heap.size + 1 < wx.heap.size ∧ bp < wx.heap.size ∧ bb < wx.heap.size ∧ Below (w.heap.size + 1 + 1) W2 wx) (((try (dsimp only at *)); (try go_split_ands); (repeat' apply And.intro); all_goals (first | assumption | (simp [*]; done) | (go_simp; done) | (simp; omega) | (exact hbW.drew) | (exact (hbW.drew.cell (p := ⟨_, _, none⟩) (by assumption)).trans (by assumption)) | (exact (hb.cell (p := ⟨_, _, none⟩) (by assumption)).trans (by assumption)) | (exact Nat.lt_of_lt_of_le (by assumption) hb.size) | (exact (‹Below (w.heap.size + 1 + 1) W2 _›).trans (hb.mono (by first | omega | (simp; omega)))))))
                    (first | (go_at_call 58; refine (isValue_bl _ _ _ _ _ _ _ true hvp _).mono ?_; rintro e w' ⟨rfl, hb⟩))
                  go_split_ands
                  go_wp2
                  go_ret
                  exact ⟨ret_int H.out, hbw2.trans ((‹Below (w.heap.size + 1 + 1) W2 _›).mono (by omega))⟩
          · have H : Hid (0 = edgeErr values blocks e) := by
              show _ = _
              rw [HE.out, ← HK.out, List.drop_of_length_le (by omega)]
              rfl
            clear HK hlen
            go_wp2
            go_ret
            exact ⟨ret_int H.out, hbwr⟩
      · rw [if_neg h2] at hE
        have H : Hid (4 = edgeErr values blocks e) := hE.symm
        have q2 : ((e.args.length : Int) != (params.length : Int)) = true := by simp; omega
        clear hE h2
        go_enter Try.func56, Try.ntmps56
        go_wp2
        go_ret
        exact ⟨ret_int H.out, hb2⟩
end Go.Proofs.Ytglfpnnfcpnmoaa
namespace Go.Proofs.Ytglfpnnfcpnmoaa
open Go.RowKit
set_option linter.unusedVariables false

def blockErr (values : List Int) (blocks : List Blk) (m0 m1 : Int) (b : Blk) : Int :=
  if firstE (instrErr values m0 m1) b.instrs ≠ 0 then firstE (instrErr values m0 m1) b.instrs
  else if 1 < b.edges.length ∧ b.instrs.length = 0 then 4
  else firstE (edgeErr values blocks) b.edges

theorem blockErr_ins (values : List Int) (blocks : List Blk) (m0 m1 : Int) (b : Blk) (e : Int) (h : firstE (instrErr values m0 m1) b.instrs = e) (he : ¬ e = 0) : blockErr values blocks m0 m1 b = e := by
  unfold blockErr
  rw [h, if_pos he]
theorem blockErr_edge (values : List Int) (blocks : List Blk) (m0 m1 : Int) (b : Blk) (e : Int) (h1 : firstE (instrErr values m0 m1) b.instrs = 0) (hm : ¬ (1 < b.edges.length ∧ b.instrs.length = 0)) (h : firstE (edgeErr values blocks) b.edges = e) : blockErr values blocks m0 m1 b = e := by
  unfold blockErr
  rw [h1, if_neg (by simp), if_neg hm, h]

theorem instr_is (values : List Int) (av : Option Addr) (cv : Nat) (vb : Value) (m0 m1 : Int) (x : Ins) (ao asp : Option Addr) (co csp : Nat) (w : World) (r : Int) (h : instrErr values m0 m1 x = r) (hv : SlOf w 1 RInt (.slice av values.length cv) values)
    (ho : SlOf w 5 ROpr (.slice ao x.operands.length co) x.operands) (hs : SlOf w 2 RRg (.slice asp x.spoils.length csp) x.spoils)
    (hcls : ∀ v, isValueB values.length v = true → classAt values v = 0 ∨ classAt values v = 1) :
    Calls Try.prog 55 #[.agg #[.slice av values.length cv, vb, .int .i64 m0, .int .i64 m1], .agg #[.int .i64 x.op, .slice ao x.operands.length co, .slice asp x.spoils.length csp]] w fun e w' => e = .returned (.int .i64 r) ∧ Below w.heap.size w w' := by
  rw [← h]; exact instr_any values av cv vb m0 m1 x ao asp co csp w hv ho hs hcls
theorem edge_is (values : List Int) (av : Option Addr) (cv : Nat) (blocks : List Blk) (ab : Option Addr) (cb : Nat) (m0 m1 : Int) (e : Edg) (aa : Option Addr) (ca : Nat) (w : World) (r : Int) (h : edgeErr values blocks e = r) (hv : SlOf w 1 RInt (.slice av values.length cv) values)
    (hbl : SlOf w 3 (RBlk w) (.slice ab blocks.length cb) blocks) (ha : SlOf w 1 RInt (.slice aa e.args.length ca) e.args) :
    Calls Try.prog 56 #[.agg #[.slice av values.length cv, .slice ab blocks.length cb, .int .i64 m0, .int .i64 m1], .agg #[.int .i64 e.block, .slice aa e.args.length ca]] w fun q w' => q = .returned (.int .i64 r) ∧ Below w.heap.size w w' := by
  rw [← h]; exact edge_any values av cv blocks ab cb m0 m1 e aa ca w hv hbl ha

set_option maxHeartbeats 8000000 in
theorem block_any (values : List Int) (av : Option Addr) (cv : Nat) (blocks : List Blk) (ab : Option Addr) (cb : Nat) (m0 m1 : Int) (b : Blk) (vp : Value) (ai ae : Option Addr) (ci ce : Nat) (w : World) (hv : SlOf w 1 RInt (.slice av values.length cv) values)
    (hbl : SlOf w 3 (RBlk w) (.slice ab blocks.length cb) blocks) (hi : SlOf w 3 (RIns w) (.slice ai b.instrs.length ci) b.instrs) (he0 : SlOf w 2 (REdg w) (.slice ae b.edges.length ce) b.edges)
    (hcls : ∀ v, isValueB values.length v = true → classAt values v = 0 ∨ classAt values v = 1) :
    Calls Try.prog 46 #[.agg #[.slice av values.length cv, .slice ab blocks.length cb, .int .i64 m0, .int .i64 m1], .agg #[vp, .slice ai b.instrs.length ci, .slice ae b.edges.length ce]] w fun e w' => e = .returned (.int .i64 (blockErr values blocks m0 m1 b)) ∧ Below w.heap.size w w' := by
  obtain ⟨_, _, _, lv⟩ := hv.out
  obtain ⟨_, _, _, lb⟩ := hbl.out
  obtain ⟨_, _, _, li⟩ := hi.out
  obtain ⟨_, _, _, le⟩ := he0.out
  unfold longest at lv lb li le
  obtain ⟨W2, hW2⟩ : ∃ W2, W2 = (w.alloc (.cells #[.slice av values.length cv, .slice ab blocks.length cb, .int .i64 m0, .int .i64 m1] 106)).alloc (.cells #[vp, .slice ai b.instrs.length ci, .slice ae b.edges.length ce] 40) := ⟨_, rfl⟩
  have hbw2 : Below w.heap.size w W2 := by rw [hW2]; exact ((Below.refl _ _).alloc (Nat.le_refl _) _).alloc (by simp) _
  have HC : ChkAt W2 w.heap.size (.slice av values.length cv) (.slice ab blocks.length cb) m0 m1 := by rw [hW2]; exact ⟨by simp; omega, by simp, by simp, by simp, by simp⟩
  have HB : BlkAt W2 (w.heap.size + 1) vp (.slice ai b.instrs.length ci) (.slice ae b.edges.length ce) := by rw [hW2]; exact ⟨by simp, by simp, by simp, by simp⟩
  have HW : Hid (W2 = (w.alloc (.cells #[.slice av values.length cv, .slice ab blocks.length cb, .int .i64 m0, .int .i64 m1] 106)).alloc (.cells #[vp, .slice ai b.instrs.length ci, .slice ae b.edges.length ce] 40)) := hW2
  clear hW2
  go_enter Try.func46, Try.ntmps46
  go_wp2
  go_loopw [14] (fun i wr => ∃ k : Nat, k ≤ b.instrs.length ∧ i = .int .i64 k ∧ Below (w.heap.size + 1 + 1) W2 wr ∧ w.heap.size + 1 < wr.heap.size ∧ Hid (firstE (instrErr values m0 m1) (b.instrs.drop k) = firstE (instrErr values m0 m1) b.instrs)) (fun i _ => b.instrs.length - (intOf i).toNat)
  case atStart => exact ⟨0, Nat.zero_le _, rfl, by rw [HW.out]; exact Below.refl _ _, by simp, rfl⟩
  case round =>
    obtain ⟨k, hk, rfl, hbr, hz, HK⟩ := hrel
    have hbwr : Below w.heap.size w wr := hbw2.trans (hbr.mono (by omega))
    by_cases hlt : k < b.instrs.length
    · skip
      obtain ⟨_, g0, g1, g2, g3⟩ := HC.below hbr (by omega)
      obtain ⟨b5, off5, cs, rfl, hcl5, ⟨vo, vs, rfl, ho, hsp⟩, hc⟩ := (hi.below hbwr (RIns.below hbwr)).at k hlt
      obtain ⟨ao, co, rfl, lo⟩ := ho.out
      obtain ⟨asp, csp, rfl, lsp⟩ := hsp.out
      have c0 := hc 0 (by simp)
      have c1 := hc 1 (by simp)
      have c2 := hc 2 (by simp)
      simp at c0 c1 c2
      clear hc hcl5
      have LC := old_cell w.heap.size
      have lc : w.heap.size < wr.heap.size := by omega
      have hba0 : Below wr.heap.size wr (wr.alloc (.cells #[.int .i64 b.instrs[k].op, .slice ao b.instrs[k].operands.length co, .slice asp b.instrs[k].spoils.length csp] 44)) := (Below.refl _ _).alloc (Nat.le_refl _) _
      have hv2 := (hv.below hbwr fun _ _ h => h).below hba0 fun _ _ h => h
      have ho2 := ho.below hba0 fun _ _ h => h
      have hs2 := hsp.below hba0 fun _ _ h => h
      by_cases he : instrErr values m0 m1 b.instrs[k] = 0
      · have H : Hid (firstE (instrErr values m0 m1) (b.instrs.drop (k + 1)) = firstE (instrErr values m0 m1) b.instrs) := (firstE_drop0 _ _ _ hlt he).trans HK.out
        clear HK
        go_wp2_with (go_at_call 55; refine (instr_is values _ _ _ _ _ b.instrs[k] _ _ _ _ _ 0 he hv2 ho2 hs2 hcls).mono ?_; rintro e w2 ⟨rfl, hb2⟩)
        have hz2 := hb2.size
        simp at hz2
        go_roundw
        case rel => exact ⟨k + 1, by omega, by go_num, (hbr.alloc (by omega) _).trans (hb2.mono (by simp; omega)), by omega, H⟩
        case measure => simp [intOf]; omega
      · have hE : blockErr values blocks m0 m1 b = instrErr values m0 m1 b.instrs[k] := blockErr_ins values blocks m0 m1 b _ ((HK.out.symm.trans (firstE_drop1 _ _ _ hlt he))) he
        have ⟨er, her⟩ : ∃ er, instrErr values m0 m1 b.instrs[k] = er := ⟨_, rfl⟩
        rw [her] at hE he
        have H : Hid (er = blockErr values blocks m0 m1 b) := hE.symm
        have hne : (er != 0) = true := by simpa using he
        clear HK hE he
        go_wp2_with (go_at_call 55; refine (instr_is values _ _ _ _ _ b.instrs[k] _ _ _ _ _ er her hv2 ho2 hs2 hcls).mono ?_; rintro e w2 ⟨rfl, hb2⟩)
        go_ret
        exact ⟨ret_int H.out, (hbwr.alloc (by omega) _).trans (hb2.mono (by simp; omega))⟩
    · have HE1 : Hid (firstE (instrErr values m0 m1) b.instrs = 0) := by
        show _ = _
        rw [← HK.out, List.drop_of_length_le (by omega)]
        rfl
      clear HK
      obtain ⟨_, t0, t1, t2⟩ := HB.below hbr (by omega)
      by_cases hm1 : 1 < b.edges.length
      · have g1 : (1 : Int) < (b.edges.length : Int) := by omega
        by_cases hm2 : b.instrs.length = 0
        · have g2 : ((b.instrs.length : Int) == 0) = true := by rw [beq_iff_eq]; omega
          have H : Hid (4 = blockErr values blocks m0 m1 b) := by show _ = _; unfold blockErr; rw [HE1.out, if_neg (by simp), if_pos ⟨hm1, hm2⟩]
          clear hm2
          go_wp2
          go_ret
          exact ⟨ret_int H.out, hbwr⟩
        · have g2 : ((b.instrs.length : Int) == 0) = false := by rw [beq_eq_false_iff_ne]; omega
          have hmany : ¬ (1 < b.edges.length ∧ b.instrs.length = 0) := fun h => hm2 h.2
          clear hm2
          go_wp2
          clear t0 t1 t2
          go_loopw [38] (fun i wr => ∃ k : Nat, k ≤ b.edges.length ∧ i = .int .i64 k ∧ Below (w.heap.size + 1 + 1) W2 wr ∧ w.heap.size + 1 < wr.heap.size ∧ Hid (firstE (edgeErr values blocks) (b.edges.drop k) = firstE (edgeErr values blocks) b.edges)) (fun i _ => b.edges.length - (intOf i).toNat)
          case atStart => exact ⟨0, Nat.zero_le _, rfl, hbr, hz, rfl⟩
          case round =>
            clear hz hbwr hbr hlt
            obtain ⟨k, hk2, rfl, hbr, hz, HK⟩ := hrel
            have hbwr : Below w.heap.size w wr := hbw2.trans (hbr.mono (by omega))
            by_cases hlt : k < b.edges.length
            · skip
              obtain ⟨_, g0, g1, g2, g3⟩ := HC.below hbr (by omega)
              obtain ⟨b5, off5, cs, rfl, hcl5, ⟨va, rfl, ha⟩, hc⟩ := (he0.below hbwr (REdg.below hbwr)).at k hlt
              obtain ⟨aa, ca, rfl, la⟩ := ha.out
              have c0 := hc 0 (by simp)
              have c1 := hc 1 (by simp)
              simp at c0 c1
              clear hc hcl5
              have LC := old_cell w.heap.size
              have lc : w.heap.size < wr.heap.size := by omega
              have hba0 : Below wr.heap.size wr (wr.alloc (.cells #[.int .i64 b.edges[k].block, .slice aa b.edges[k].args.length ca] 92)) := (Below.refl _ _).alloc (Nat.le_refl _) _
              have hv2 := (hv.below hbwr fun _ _ h => h).below hba0 fun _ _ h => h
              have hbl2 := (hbl.below hbwr (RBlk.below hbwr)).below hba0 (RBlk.below hba0)
              have ha2 := ha.below hba0 fun _ _ h => h
              by_cases he : edgeErr values blocks b.edges[k] = 0
              · have H : Hid (firstE (edgeErr values blocks) (b.edges.drop (k + 1)) = firstE (edgeErr values blocks) b.edges) := (firstE_drop0 _ _ _ hlt he).trans HK.out
                clear HK
                go_wp2_with (go_at_call 56; refine (edge_is values _ _ blocks _ _ _ _ b.edges[k] _ _ _ 0 he hv2 hbl2 ha2).mono ?_; rintro e w2 ⟨rfl, hb2⟩)
                have hz2 := hb2.size
                simp at hz2
                go_roundw
                case rel => exact ⟨k + 1, by omega, by go_num, (hbr.alloc (by omega) _).trans (hb2.mono (by simp; omega)), by omega, H⟩
                case measure => simp [intOf]; omega
              · have hE : blockErr values blocks m0 m1 b = edgeErr values blocks b.edges[k] := blockErr_edge values blocks m0 m1 b _ HE1.out hmany ((HK.out.symm.trans (firstE_drop1 _ _ _ hlt he)))
                have ⟨er, her⟩ : ∃ er, edgeErr values blocks b.edges[k] = er := ⟨_, rfl⟩
                rw [her] at hE he
                have H : Hid (er = blockErr values blocks m0 m1 b) := hE.symm
                have hne : (er != 0) = true := by simpa using he
                clear HK hE he
                go_wp2_with (go_at_call 56; refine (edge_is values _ _ blocks _ _ _ _ b.edges[k] _ _ _ er her hv2 hbl2 ha2).mono ?_; rintro e w2 ⟨rfl, hb2⟩)
                go_ret
                exact ⟨ret_int H.out, (hbwr.alloc (by omega) _).trans (hb2.mono (by simp; omega))⟩
            · have H : Hid (0 = blockErr values blocks m0 m1 b) := (blockErr_edge values blocks m0 m1 b 0 HE1.out hmany (by rw [← HK.out, List.drop_of_length_le (by omega)]; rfl)).symm
              clear HK
              go_wp2
              go_ret
              exact ⟨ret_int H.out, hbwr⟩
      · have g1 : ¬ (1 : Int) < (b.edges.length : Int) := by omega
        have g1' : decide ((1 : Int) < (b.edges.length : Int)) = false := by simpa using g1
        have hmany : ¬ (1 < b.edges.length ∧ b.instrs.length = 0) := fun h => hm1 h.1
        go_wp2
        clear t0 t1 t2
        go_loopw [38] (fun i wr => ∃ k : Nat, k ≤ b.edges.length ∧ i = .int .i64 k ∧ Below (w.heap.size + 1 + 1) W2 wr ∧ w.heap.size + 1 < wr.heap.size ∧ Hid (firstE (edgeErr values blocks) (b.edges.drop k) = firstE (edgeErr values blocks) b.edges)) (fun i _ => b.edges.length - (intOf i).toNat)
        case atStart => exact ⟨0, Nat.zero_le _, rfl, hbr, hz, rfl⟩
        case round =>
          clear hz hbwr hbr hlt
          obtain ⟨k, hk2, rfl, hbr, hz, HK⟩ := hrel
          have hbwr : Below w.heap.size w wr := hbw2.trans (hbr.mono (by omega))
          by_cases hlt : k < b.edges.length
          · skip
            obtain ⟨_, g0, g1, g2, g3⟩ := HC.below hbr (by omega)
            obtain ⟨b5, off5, cs, rfl, hcl5, ⟨va, rfl, ha⟩, hc⟩ := (he0.below hbwr (REdg.below hbwr)).at k hlt
            obtain ⟨aa, ca, rfl, la⟩ := ha.out
            have c0 := hc 0 (by simp)
            have c1 := hc 1 (by simp)
            simp at c0 c1
            clear hc hcl5
            have LC := old_cell w.heap.size
            have lc : w.heap.size < wr.heap.size := by omega
            have hba0 : Below wr.heap.size wr (wr.alloc (.cells #[.int .i64 b.edges[k].block, .slice aa b.edges[k].args.length ca] 92)) := (Below.refl _ _).alloc (Nat.le_refl _) _
            have hv2 := (hv.below hbwr fun _ _ h => h).below hba0 fun _ _ h => h
            have hbl2 := (hbl.below hbwr (RBlk.below hbwr)).below hba0 (RBlk.below hba0)
            have ha2 := ha.below hba0 fun _ _ h => h
            by_cases he : edgeErr values blocks b.edges[k] = 0
            · have H : Hid (firstE (edgeErr values blocks) (b.edges.drop (k + 1)) = firstE (edgeErr values blocks) b.edges) := (firstE_drop0 _ _ _ hlt he).trans HK.out
              clear HK
              go_wp2_with (go_at_call 56; refine (edge_is values _ _ blocks _ _ _ _ b.edges[k] _ _ _ 0 he hv2 hbl2 ha2).mono ?_; rintro e w2 ⟨rfl, hb2⟩)
              have hz2 := hb2.size
              simp at hz2
              go_roundw
              case rel => exact ⟨k + 1, by omega, by go_num, (hbr.alloc (by omega) _).trans (hb2.mono (by simp; omega)), by omega, H⟩
              case measure => simp [intOf]; omega
            · have hE : blockErr values blocks m0 m1 b = edgeErr values blocks b.edges[k] := blockErr_edge values blocks m0 m1 b _ HE1.out hmany ((HK.out.symm.trans (firstE_drop1 _ _ _ hlt he)))
              have ⟨er, her⟩ : ∃ er, edgeErr values blocks b.edges[k] = er := ⟨_, rfl⟩
              rw [her] at hE he
              have H : Hid (er = blockErr values blocks m0 m1 b) := hE.symm
              have hne : (er != 0) = true := by simpa using he
              clear HK hE he
              go_wp2_with (go_at_call 56; refine (edge_is values _ _ blocks _ _ _ _ b.edges[k] _ _ _ er her hv2 hbl2 ha2).mono ?_; rintro e w2 ⟨rfl, hb2⟩)
              go_ret
              exact ⟨ret_int H.out, (hbwr.alloc (by omega) _).trans (hb2.mono (by simp; omega))⟩
          · have H : Hid (0 = blockErr values blocks m0 m1 b) := (blockErr_edge values blocks m0 m1 b 0 HE1.out hmany (by rw [← HK.out, List.drop_of_length_le (by omega)]; rfl)).symm
            clear HK
            go_wp2
            go_ret
            exact ⟨ret_int H.out, hbwr⟩
end Go.Proofs.Ytglfpnnfcpnmoaa
namespace Go.Proofs.Ytglfpnnfcpnmoaa
open Go.RowKit
set_option linter.unusedVariables false

/-- w' is w but for blocks p and q, and new ones. -/
structure But (p q : Nat) (w w' : World) : Prop where
  os : w'.os = w.os
  tape : w'.tape = w.tape
  output : w'.output = w.output
  size : w.heap.size ≤ w'.heap.size
  block : ∀ k, k < w.heap.size → k ≠ p → k ≠ q → w'.heap[k]? = w.heap[k]?
theorem But.refl (p q : Nat) (w : World) : But p q w w := ⟨rfl, rfl, rfl, Nat.le_refl _, fun _ _ _ _ => rfl⟩
theorem But.trans {p q : Nat} {a b c : World} (h : But p q a b) (k : But p q b c) : But p q a c :=
  ⟨k.os.trans h.os, k.tape.trans h.tape, k.output.trans h.output, Nat.le_trans h.size k.size, fun i hi h1 h2 => (k.block i (Nat.lt_of_lt_of_le hi h.size) h1 h2).trans (h.block i hi h1 h2)⟩
theorem But.of_below {p q : Nat} {a b : World} (h : Below a.heap.size a b) : But p q a b := ⟨h.os, h.tape, h.output, h.size, fun k hk _ _ => h.block k hk⟩
theorem But.alloc {p q : Nat} {a b : World} (h : But p q a b) (o : Obj) : But p q a (b.alloc o) := h.trans (But.of_below ((Below.refl _ _).alloc (Nat.le_refl _) o))
theorem But.setCell {p q : Nat} {a b : World} (h : But p q a b) (x : Addr) (hx : x.block = p ∨ x.block = q) (u : Value) : But p q a (b.setCell x u) :=
  h.trans ⟨rfl, rfl, rfl, by simp [World.setCell], fun k hk h1 h2 => Below.heap_setCell _ _ _ _ (by omega)⟩
theorem But.below {p q B : Nat} {a b : World} (h : But p q a b) (hB : B ≤ a.heap.size) (hp : B ≤ p) (hq : B ≤ q) : Below B a b := ⟨h.os, h.tape, h.output, h.size, fun k hk => h.block k (by omega) (by omega) (by omega)⟩
theorem But.cell {p q : Nat} {a b : World} (h : But p q a b) {x : Addr} (hx : x.block < a.heap.size) (h1 : x.block ≠ p) (h2 : x.block ≠ q) : b.cell? x = a.cell? x := World.cell?_of_block (h.block x.block hx h1 h2)

def markE (n : Nat) (made : Nat → Bool) (v : Int) : Int := if isValueB n v = false then 2 else if made v.toNat = true then 7 else 0
def markS (made : Nat → Bool) (v : Int) : Nat → Bool := fun i => if i = v.toNat then true else made i

/-- What the closure looks at: the checker in block B; the row of marks; the slice over it; how many are left. -/
def MarkSt (w : World) (B n : Nat) (av : Option Addr) (cv : Nat) (vb : Value) (m0 m1 : Int) (made : Nat → Bool) (left : Int) : Prop :=
  ChkAt w B (.slice av n cv) vb m0 m1 ∧ w.rowIs (B + 1) 4 n (fun i => .bool (made i)) ∧ w.rowIs (B + 1 + 1) 87 1 (fun _ => .slice (some ⟨B + 1, 0, none⟩) n n) ∧ w.rowIs (B + 1 + 1 + 1) 3 1 (fun _ => .int .i64 left)

theorem MarkSt.below {w w' : World} {B n : Nat} {av : Option Addr} {cv : Nat} {vb : Value} {m0 m1 : Int} {made : Nat → Bool} {left : Int} (h : MarkSt w B n av cv vb m0 m1 made left) (hb : Below w.heap.size w w') : MarkSt w' B n av cv vb m0 m1 made left := by
  obtain ⟨h1, h2, h3, h4⟩ := h
  exact ⟨h1.below hb h1.1, h2.of_block (hb.block _ h2.lt), h3.of_block (hb.block _ h3.lt), h4.of_block (hb.block _ h4.lt)⟩

set_option maxHeartbeats 1000000 in
theorem mark_any (B n : Nat) (av : Option Addr) (cv : Nat) (vb : Value) (m0 m1 : Int) (made : Nat → Bool) (left v : Int) (w : World) (st : MarkSt w B n av cv vb m0 m1 made left) (hl : -1000000000 ≤ left) (hl' : left ≤ 1000000000) (hn : n ≤ 140737488355328) :
    Calls Try.prog 57 #[.int .i64 v, .pointer (some ⟨B, 0, none⟩), .pointer (some ⟨B + 1 + 1, 0, none⟩), .pointer (some ⟨B + 1 + 1 + 1, 0, none⟩)] w fun e w' => e = .returned (.int .i64 (markE n made v)) ∧ But (B + 1) (B + 1 + 1 + 1) w w' ∧ (markE n made v = 0 → MarkSt w' B n av cv vb m0 m1 (markS made v) (left - 1)) := by
  have st0 := st
  obtain ⟨⟨lC, g0, g1, g2, g3⟩, r1, r2, r3⟩ := st
  have k2 := r2.cell (i := 0) (by omega)
  have k3 := r3.cell (i := 0) (by omega)
  have z3 := r3.frozen 0
  have L1 := old_cell (B + 1)
  have L2 := old_cell (B + 1 + 1)
  have L3 := old_cell (B + 1 + 1 + 1)
  have l1 := r1.lt
  have l2 := r2.lt
  have l3 := r3.lt
  have hal : Below w.heap.size w (w.alloc (.cells #[.slice av n cv, vb, .int .i64 m0, .int .i64 m1] 106)) := (Below.refl _ _).alloc (Nat.le_refl _) _
  cases hval : isValueB n v
  · have H : Hid (2 = markE n made v) := by show _ = _; simp [markE, hval]
    have H0 : markE n made v = 0 → False := by rw [← H.out]; omega
    go_enter Try.func57, Try.ntmps57
    go_wp2_with (go_at_call 58; refine (isValue_is _ _ _ _ _ _ _ false hval _).mono ?_; rintro e w' ⟨rfl, rfl⟩)
    go_ret
    exact ⟨ret_int H.out, But.of_below hal, fun h => (H0 h).elim⟩
  · have hv : 0 ≤ v ∧ v < (n : Int) := by simpa [isValueB] using hval
    obtain ⟨v0, v1⟩ := hv
    have k1 := r1.cell (i := v.toNat) (by omega)
    have z1 := r1.frozen v.toNat
    cases hm : made v.toNat
    · have H : Hid (0 = markE n made v) := by show _ = _; simp [markE, hval, hm]
      rw [hm] at k1
      go_enter Try.func57, Try.ntmps57
      go_wp2_with (go_at_call 58; refine (isValue_is _ _ _ _ _ _ _ true hval _).mono ?_; rintro e w' ⟨rfl, rfl⟩)
      go_ret
      have hB := (((But.refl (B + 1) (B + 1 + 1 + 1) w).setCell ⟨B + 1, v.toNat, none⟩ (Or.inl rfl) (.bool true)).setCell ⟨B + 1 + 1 + 1, 0, none⟩ (Or.inr rfl) (.int .i64 (left - 1))).alloc (.cells #[.slice av n cv, vb, .int .i64 m0, .int .i64 m1] 106)
      refine ⟨ret_int H.out, ?_, fun _ => ?_⟩
      · exact hB
      · refine ⟨⟨Nat.lt_of_lt_of_le lC hB.size, (hB.cell lC (by show B ≠ _; omega) (by show B ≠ _; omega)).trans g0, (hB.cell lC (by show B ≠ _; omega) (by show B ≠ _; omega)).trans g1, (hB.cell lC (by show B ≠ _; omega) (by show B ≠ _; omega)).trans g2, (hB.cell lC (by show B ≠ _; omega) (by show B ≠ _; omega)).trans g3⟩, ?_, ?_, ?_⟩
        · refine (((r1.set v.toNat (.bool true)).setOther (by show B + 1 ≠ B + 1 + 1 + 1; omega) _).alloc _).congr fun i hi => ?_
          by_cases h : i = v.toNat <;> simp [markS, h]
        · exact ((r2.setOther (by show B + 1 + 1 ≠ B + 1; omega) _).setOther (by show B + 1 + 1 ≠ B + 1 + 1 + 1; omega) _).alloc _
        · refine (((r3.setOther (by show B + 1 + 1 + 1 ≠ B + 1; omega) _).set 0 _).alloc _).congr fun i hi => ?_
          simp; omega
    · have H : Hid (7 = markE n made v) := by show _ = _; simp [markE, hval, hm]
      have H0 : markE n made v = 0 → False := by rw [← H.out]; omega
      rw [hm] at k1
      go_enter Try.func57, Try.ntmps57
      go_wp2_with (go_at_call 58; refine (isValue_is _ _ _ _ _ _ _ true hval _).mono ?_; rintro e w' ⟨rfl, rfl⟩)
      go_ret
      exact ⟨ret_int H.out, But.of_below hal, fun h => (H0 h).elim⟩

def marks (n : Nat) : (Nat → Bool) → List Int → Int
  | _, [] => 0
  | made, v :: r => if markE n made v = 0 then marks n (markS made v) r else markE n made v
def oprM (l : List Opr) : List Int := (l.filter fun o => decide (o.kind = 2)).map (·.value)
def insM (l : List Ins) : List Int := l.flatMap fun x => oprM x.operands
def makersOf (b : Blk) : List Int := b.params ++ insM b.instrs

theorem oprM_def (o : Opr) (l : List Opr) (h : o.kind = 2) : oprM (o :: l) = o.value :: oprM l := by simp [oprM, h]
theorem oprM_use (o : Opr) (l : List Opr) (h : ¬ o.kind = 2) : oprM (o :: l) = oprM l := by simp [oprM, h]
theorem insM_cons (x : Ins) (l : List Ins) : insM (x :: l) = oprM x.operands ++ insM l := by simp [insM]

/-- What is marked so far, and what is still to be marked: 'rest'. -/
def MInv (B n : Nat) (av : Option Addr) (cv : Nat) (vb : Value) (m0 m1 : Int) (made : Nat → Bool) (left : Int) (L rest : List Int) (md : Nat → Bool) (lf : Int) (wr : World) : Prop :=
  MarkSt wr B n av cv vb m0 m1 md lf ∧ marks n made L = marks n md rest ∧ L.foldl markS made = rest.foldl markS md ∧ lf - rest.length = left - L.length ∧ rest.length ≤ L.length

theorem MInv.below {B n : Nat} {av : Option Addr} {cv : Nat} {vb : Value} {m0 m1 : Int} {made : Nat → Bool} {left : Int} {L rest : List Int} {md : Nat → Bool} {lf : Int} {wr w' : World} (h : MInv B n av cv vb m0 m1 made left L rest md lf wr) (hb : Below wr.heap.size wr w') : MInv B n av cv vb m0 m1 made left L rest md lf w' :=
  ⟨h.1.below hb, h.2⟩
theorem MInv.next {B n : Nat} {av : Option Addr} {cv : Nat} {vb : Value} {m0 m1 : Int} {made : Nat → Bool} {left : Int} {L rest : List Int} {v : Int} {md : Nat → Bool} {lf : Int} {wr w' : World} (h : MInv B n av cv vb m0 m1 made left L (v :: rest) md lf wr) (he : markE n md v = 0) (hs : MarkSt w' B n av cv vb m0 m1 (markS md v) (lf - 1)) : MInv B n av cv vb m0 m1 made left L rest (markS md v) (lf - 1) w' := by
  obtain ⟨h1, h2, h3, h4, h5⟩ := h
  refine ⟨hs, ?_, h3, ?_, ?_⟩
  · rw [h2, marks, if_pos he]
  · simp at h4; omega
  · simp at h5; omega
theorem MInv.err {B n : Nat} {av : Option Addr} {cv : Nat} {vb : Value} {m0 m1 : Int} {made : Nat → Bool} {left : Int} {L rest : List Int} {v : Int} {md : Nat → Bool} {lf : Int} {wr : World} (h : MInv B n av cv vb m0 m1 made left L (v :: rest) md lf wr) (he : ¬ markE n md v = 0) : marks n made L = markE n md v := by
  rw [h.2.1, marks, if_neg he]

theorem mark_is (B n : Nat) (av : Option Addr) (cv : Nat) (vb : Value) (m0 m1 : Int) (made : Nat → Bool) (left v : Int) (w : World) (r : Int) (h : markE n made v = r) (st : MarkSt w B n av cv vb m0 m1 made left) (hl : -1000000000 ≤ left) (hl' : left ≤ 1000000000) (hn : n ≤ 140737488355328) :
    Calls Try.prog 57 #[.int .i64 v, .pointer (some ⟨B, 0, none⟩), .pointer (some ⟨B + 1 + 1, 0, none⟩), .pointer (some ⟨B + 1 + 1 + 1, 0, none⟩)] w fun e w' => e = .returned (.int .i64 r) ∧ But (B + 1) (B + 1 + 1 + 1) w w' ∧ (r = 0 → MarkSt w' B n av cv vb m0 m1 (markS made v) (left - 1)) := by
  rw [← h]; exact mark_any B n av cv vb m0 m1 made left v w st hl hl' hn

set_option maxHeartbeats 4000000 in
theorem markBlock_any (B n : Nat) (av : Option Addr) (cv : Nat) (vb : Value) (m0 m1 : Int) (made : Nat → Bool) (left : Int) (b : Blk) (ap ai : Option Addr) (cp ci : Nat) (ve : Value) (w0 w : World) (st : MarkSt w B n av cv vb m0 m1 made left) (hl : -500000000 ≤ left) (hl' : left ≤ 500000000) (hn : n ≤ 140737488355328)
    (hw0 : Below w0.heap.size w0 w) (hwB : w0.heap.size ≤ B)
    (hp : SlOf w0 1 RInt (.slice ap b.params.length cp) b.params) (hi : SlOf w0 3 (RIns w0) (.slice ai b.instrs.length ci) b.instrs) (hfar : (makersOf b).length ≤ 100000000) :
    Calls Try.prog 59 #[.agg #[.slice ap b.params.length cp, .slice ai b.instrs.length ci, ve], (.func (.func 57) #[] #[.pointer (some ⟨B, 0, none⟩), .pointer (some ⟨B + 1 + 1, 0, none⟩), .pointer (some ⟨B + 1 + 1 + 1, 0, none⟩)])] w fun e w' => e = .returned (.int .i64 (marks n made (makersOf b))) ∧ But (B + 1) (B + 1 + 1 + 1) w w' ∧ (marks n made (makersOf b) = 0 → MarkSt w' B n av cv vb m0 m1 ((makersOf b).foldl markS made) (left - (makersOf b).length)) := by
  obtain ⟨_, _, _, lp⟩ := hp.out
  obtain ⟨_, _, _, li⟩ := hi.out
  unfold longest at lp li
  have hBw := st.2.2.2.lt
  obtain ⟨W1, hW1⟩ : ∃ W1, W1 = w.alloc (.cells #[.slice ap b.params.length cp, .slice ai b.instrs.length ci, ve] 40) := ⟨_, rfl⟩
  have hbw1 : Below w.heap.size w W1 := by rw [hW1]; exact (Below.refl _ _).alloc (Nat.le_refl _) _
  have hz1 : W1.heap.size = w.heap.size + 1 := by rw [hW1]; simp
  have HB : BlkAt W1 w.heap.size (.slice ap b.params.length cp) (.slice ai b.instrs.length ci) ve := by rw [hW1]; exact ⟨by simp, by simp, by simp, by simp⟩
  have HW : Hid (W1 = w.alloc (.cells #[.slice ap b.params.length cp, .slice ai b.instrs.length ci, ve] 40)) := hW1
  have HZ : Hid (W1.heap.size = w.heap.size + 1) := hz1
  have hI0 : MInv B n av cv vb m0 m1 made left (makersOf b) (b.params.drop 0 ++ insM b.instrs) made left W1 := ⟨st.below hbw1, rfl, rfl, rfl, Nat.le_refl _⟩
  clear hW1 hz1
  generalize hL : makersOf b = L at *
  clear hL
  go_enter Try.func59, Try.ntmps59
  go_wp2
  go_loopw [16] (fun i wr => ∃ (k : Nat) (md : Nat → Bool) (lf : Int), k ≤ b.params.length ∧ i = .int .i64 k ∧ But (B + 1) (B + 1 + 1 + 1) W1 wr ∧ w.heap.size < wr.heap.size ∧ MInv B n av cv vb m0 m1 made left L (b.params.drop k ++ insM b.instrs) md lf wr) (fun i _ => b.params.length - (intOf i).toNat)
  case atStart => exact ⟨0, made, left, Nat.zero_le _, rfl, by rw [HW.out]; exact But.refl _ _ _, by simp, by rw [← HW.out]; exact hI0⟩
  case round =>
    obtain ⟨k, md, lf, hk, rfl, hbr, hz, hI⟩ := hrel
    have hs1 := HZ.out
    have hb0 : Below w0.heap.size w0 wr := hw0.trans ((hbw1.mono hw0.size).trans (hbr.below (by have := hw0.size; omega) (by omega) (by omega)))
    have hI4 := hI.2.2.2.1
    have hI5 := hI.2.2.2.2
    by_cases hlt : k < b.params.length
    · obtain ⟨ba, offa, rfl, hba, a0⟩ := int_cell (hp.below hb0 fun _ _ h => h) k hlt
      have hI' : MInv B n av cv vb m0 m1 made left L (b.params[k] :: (b.params.drop (k + 1) ++ insM b.instrs)) md lf wr := by
        have e : b.params.drop k ++ insM b.instrs = b.params[k] :: (b.params.drop (k + 1) ++ insM b.instrs) := by rw [List.drop_eq_getElem_cons hlt]; rfl
        rw [← e]; exact hI
      generalize b.params[k] = v at *
      clear hI hs1
      by_cases he : markE n md v = 0
      · have hstp := hI'.1
        go_wp2_with (go_at_call 57; refine (mark_is B n av cv vb m0 m1 md lf v _ 0 he (hstp) (by omega) (by omega) hn).mono ?_; rintro e w2 ⟨rfl, hbut, hst⟩)
        have hz2 := hbut.size
        go_roundw
        case rel => exact ⟨k + 1, markS md v, lf - 1, by omega, by go_num, hbr.trans hbut, by omega, hI'.next he (hst (by first | trivial | rfl))⟩
        case measure => simp [intOf]; omega
      · have hE := hI'.err he
        have ⟨er, her⟩ : ∃ er, markE n md v = er := ⟨_, rfl⟩
        rw [her] at hE he
        have H : Hid (er = marks n made L) := hE.symm
        have hne : (er != 0) = true := by simpa using he
        have H0 : ¬ marks n made L = 0 := by rw [hE]; exact he
        have hstp := hI'.1
        clear hE
        have he := her
        go_wp2_with (go_at_call 57; refine (mark_is B n av cv vb m0 m1 md lf v _ er he (hstp) (by omega) (by omega) hn).mono ?_; rintro e w2 ⟨rfl, hbut, hst⟩)
        go_ret
        exact ⟨ret_int H.out, (But.of_below hbw1).trans (hbr.trans hbut), fun h => (H0 h).elim⟩
    · have hI1 : MInv B n av cv vb m0 m1 made left L (insM (b.instrs.drop 0)) md lf wr := by
        have e : b.params.drop k ++ insM b.instrs = insM (b.instrs.drop 0) := by rw [List.drop_of_length_le (by omega)]; rfl
        rw [← e]; exact hI
      clear hI hI4 hI5
      have t0 := (hbr.cell (x := ⟨w.heap.size, 0, none⟩) (by show w.heap.size < _; omega) (by show w.heap.size ≠ _; omega) (by show w.heap.size ≠ _; omega)).trans HB.2.1
      have t1 := (hbr.cell (x := ⟨w.heap.size, 1, none⟩) (by show w.heap.size < _; omega) (by show w.heap.size ≠ _; omega) (by show w.heap.size ≠ _; omega)).trans HB.2.2.1
      clear hs1
      go_wp2
      clear t0 t1
      go_loopw [30] (fun i wr => ∃ (k : Nat) (md : Nat → Bool) (lf : Int), k ≤ b.instrs.length ∧ i = .int .i64 k ∧ But (B + 1) (B + 1 + 1 + 1) W1 wr ∧ w.heap.size < wr.heap.size ∧ MInv B n av cv vb m0 m1 made left L (insM (b.instrs.drop k)) md lf wr) (fun i _ => b.instrs.length - (intOf i).toNat)
      case atStart => exact ⟨0, md, lf, Nat.zero_le _, rfl, hbr, hz, hI1⟩
      case round =>
        clear hb0 hI1 hz hbr hlt
        obtain ⟨k, md, lf, hk2, rfl, hbr, hz, hI⟩ := hrel
        have hs1 := HZ.out
        have hb0 : Below w0.heap.size w0 wr := hw0.trans ((hbw1.mono hw0.size).trans (hbr.below (by have := hw0.size; omega) (by omega) (by omega)))
        by_cases hlt : k < b.instrs.length
        · have hI' : MInv B n av cv vb m0 m1 made left L (oprM (b.instrs[k].operands.drop 0) ++ insM (b.instrs.drop (k + 1))) md lf wr := by
            have e : insM (b.instrs.drop k) = oprM (b.instrs[k].operands.drop 0) ++ insM (b.instrs.drop (k + 1)) := by rw [List.drop_eq_getElem_cons hlt, insM_cons]; rfl
            rw [← e]; exact hI
          clear hI
          obtain ⟨b5, off5, cs, rfl, hcl5, ⟨vo, vs, rfl, ho, hsp⟩, hc⟩ := hi.at k hlt
          obtain ⟨ao, co, rfl, lo⟩ := ho.out
          obtain ⟨asp, csp, rfl, lsp⟩ := hsp.out
          unfold longest at lo
          have c0 := (hb0.cell (p := ⟨b5, off5 + k * 3 + 0, none⟩) (block_lt (hc 0 (by simp)))).trans (hc 0 (by simp))
          have c1 := (hb0.cell (p := ⟨b5, off5 + k * 3 + 1, none⟩) (block_lt (hc 1 (by simp)))).trans (hc 1 (by simp))
          have c2 := (hb0.cell (p := ⟨b5, off5 + k * 3 + 2, none⟩) (block_lt (hc 2 (by simp)))).trans (hc 2 (by simp))
          simp at c0 c1 c2
          clear hc hcl5 hs1
          generalize b.instrs[k] = x at *
          have hba0 : Below wr.heap.size wr (wr.alloc (.cells #[.int .i64 x.op, .slice ao x.operands.length co, .slice asp x.spoils.length csp] 44)) := (Below.refl _ _).alloc (Nat.le_refl _) _
          have hI0 := hI'.below hba0
          have hbr0 := hbr.alloc (.cells #[.int .i64 x.op, .slice ao x.operands.length co, .slice asp x.spoils.length csp] 44)
          have hz0 : w.heap.size < (wr.alloc (.cells #[.int .i64 x.op, .slice ao x.operands.length co, .slice asp x.spoils.length csp] 44)).heap.size := by simp; omega
          go_wp2
          clear c0 c1 c2
          go_loopw [37] (fun j w3 => ∃ (q : Nat) (md : Nat → Bool) (lf : Int), q ≤ x.operands.length ∧ j = .int .i64 q ∧ But (B + 1) (B + 1 + 1 + 1) W1 w3 ∧ w.heap.size < w3.heap.size ∧ MInv B n av cv vb m0 m1 made left L (oprM (x.operands.drop q) ++ insM (b.instrs.drop (k + 1))) md lf w3) (fun j _ => x.operands.length - (intOf j).toNat)
          case atStart => exact ⟨0, md, lf, Nat.zero_le _, rfl, hbr0, hz0, hI0⟩
          case round =>
            clear hb0 hI' hI0 hbr0 hz0 hba0 hbr hz
            obtain ⟨q, md, lf, hq, rfl, hbr, hz, hI⟩ := hrel
            have hs1 := HZ.out
            have hb0 : Below w0.heap.size w0 wr := hw0.trans ((hbw1.mono hw0.size).trans (hbr.below (by have := hw0.size; omega) (by omega) (by omega)))
            have hI4 := hI.2.2.2.1
            have hI5 := hI.2.2.2.2
            by_cases hql : q < x.operands.length
            · obtain ⟨b6, off6, rfl, hb6, c0, c1, c2, c3, c4⟩ := opr_cells (ho.below hb0 fun _ _ h => h) q hql
              have hdr : x.operands.drop q = x.operands[q] :: x.operands.drop (q + 1) := List.drop_eq_getElem_cons hql
              rw [hdr] at hI
              generalize x.operands[q] = o at *
              clear hdr hs1
              have hbo : Below wr.heap.size wr (wr.alloc (.cells #[.int .i64 o.kind, .int .i64 o.value, .bool o.late, .int .i64 o.limit, .int .i64 o.n] 46)) := (Below.refl _ _).alloc (Nat.le_refl _) _
              by_cases hk2 : o.kind = 2
              · have qk : (o.kind != 2) = false := by simp [hk2]
                have hI' : MInv B n av cv vb m0 m1 made left L (o.value :: (oprM (x.operands.drop (q + 1)) ++ insM (b.instrs.drop (k + 1)))) md lf wr := by
                  have e := oprM_def o (x.operands.drop (q + 1)) hk2
                  rw [e] at hI
                  exact hI
                have hstp := (hI'.below hbo).1
                clear hI hk2
                by_cases he : markE n md o.value = 0
                · skip
                  go_wp2_with (go_at_call 57; refine (mark_is B n av cv vb m0 m1 md lf o.value _ 0 he (hstp) (by omega) (by omega) hn).mono ?_; rintro e w2 ⟨rfl, hbut, hst⟩)
                  have hz2 := hbut.size
                  simp at hz2
                  go_roundw
                  case rel => exact ⟨q + 1, markS md o.value, lf - 1, by omega, by go_num, (hbr.alloc _).trans hbut, by omega, hI'.next he (hst (by first | trivial | rfl))⟩
                  case measure => simp [intOf]; omega
                · have hE := hI'.err he
                  have ⟨er, her⟩ : ∃ er, markE n md o.value = er := ⟨_, rfl⟩
                  rw [her] at hE he
                  have H : Hid (er = marks n made L) := hE.symm
                  have hne : (er != 0) = true := by simpa using he
                  have H0 : ¬ marks n made L = 0 := by rw [hE]; exact he
                  clear hE
                  have he := her
                  go_wp2_with (go_at_call 57; refine (mark_is B n av cv vb m0 m1 md lf o.value _ er he (hstp) (by omega) (by omega) hn).mono ?_; rintro e w2 ⟨rfl, hbut, hst⟩)
                  go_ret
                  exact ⟨ret_int H.out, (But.of_below hbw1).trans ((hbr.alloc _).trans hbut), fun h => (H0 h).elim⟩
              · have qk : (o.kind != 2) = true := by simpa using hk2
                have hI' : MInv B n av cv vb m0 m1 made left L (oprM (x.operands.drop (q + 1)) ++ insM (b.instrs.drop (k + 1))) md lf wr := by
                  have e := oprM_use o (x.operands.drop (q + 1)) hk2
                  rw [e] at hI
                  exact hI
                clear hI hk2
                go_wp2
                go_roundw
                case rel => exact ⟨q + 1, md, lf, by omega, by go_num, hbr.alloc _, by simp; omega, hI'.below hbo⟩
                case measure => simp [intOf]; omega
            · have hI' : MInv B n av cv vb m0 m1 made left L (insM (b.instrs.drop (k + 1))) md lf wr := by
                have e : oprM (x.operands.drop q) ++ insM (b.instrs.drop (k + 1)) = insM (b.instrs.drop (k + 1)) := by rw [List.drop_of_length_le (by omega)]; rfl
                rw [← e]; exact hI
              clear hI hs1
              go_wp2
              go_roundw
              case rel => exact ⟨k + 1, md, lf, by omega, by go_num, hbr, hz, hI'⟩
              case measure => simp [intOf]; omega
        · have hI' : MInv B n av cv vb m0 m1 made left L [] md lf wr := by
            have e : insM (b.instrs.drop k) = [] := by rw [List.drop_of_length_le (by omega)]; rfl
            rw [← e]; exact hI
          clear hI hs1
          have H : Hid (0 = marks n made L) := hI'.2.1.symm
          have hfin : MarkSt wr B n av cv vb m0 m1 (L.foldl markS made) (left - L.length) := by
            have h1 := hI'.2.2.1
            have h2 := hI'.2.2.2.1
            have e : left - L.length = lf := by simp at h2; omega
            rw [h1, e]; exact hI'.1
          go_wp2
          go_ret
          exact ⟨ret_int H.out, (But.of_below hbw1).trans hbr, fun _ => hfin⟩
end Go.Proofs.Ytglfpnnfcpnmoaa
