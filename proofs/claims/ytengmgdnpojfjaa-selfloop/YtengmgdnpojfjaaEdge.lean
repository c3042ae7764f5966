/-
  The contract of 'checker.edge': which error an edge has (P1.8), for whatever values and blocks.
-/
import Derived.Test.YtengmgdnpojfjaaOpnd
import Derived.Deep.RegionWith
namespace Go.Proofs.Ytengmgdnpojfjaa
open Go.RowKit
set_option linter.unusedVariables false

def argsErr (values : List Int) : List Int → List Int → Int
  | a :: r, p :: q => if isValueB values.length a = false then 2 else if isValueB values.length p = false ∨ ¬ classAt values a = classAt values p then 17 else argsErr values r q
  | _, _ => 0
def edgeErr (values : List Int) (blocks : List Blk) (e : Edg) : Int :=
  if e.block ≤ 0 ∨ (blocks.length : Int) ≤ e.block then 6
  else match blocks[e.block.toNat]? with
    | none => 6
    | some b => if e.args.length = b.params.length then argsErr values e.args b.params else 4

theorem int_cell {w : World} {aa : Option Addr} {ca n : Nat} {l : List Int} (ha : SlOf w 1 RInt (.slice aa n ca) l) (i : Nat) (hi : i < l.length) :
    ∃ b off, aa = some ⟨b, off, none⟩ ∧ b < w.heap.size ∧ w.cell? ⟨b, off + i, none⟩ = some (.int .i64 l[i]) := by
  obtain ⟨b, off, cs, h1, h2, h3, h4⟩ := ha.at i hi
  unfold RInt at h3
  subst h3
  have c0 := h4 0 (by simp)
  simp at c0
  exact ⟨b, off, h1, block_lt c0, c0⟩

theorem isValue_bl (av : Option Addr) (n cv : Nat) (vb : Value) (m0 m1 v : Int) (b : Bool) (h : isValueB n v = b) (w : World) :
    Calls Try.prog 69 #[.agg #[.slice av n cv, vb, .int .i64 m0, .int .i64 m1], .int .i64 v] w fun e w' => e = .returned (.bool b) ∧ Below w.heap.size w w' := by
  refine (isValue_is av n cv vb m0 m1 v b h w).mono ?_
  rintro e w' ⟨rfl, rfl⟩
  exact ⟨rfl, (Below.refl _ _).alloc (Nat.le_refl _) _⟩

/-- A world that S holds of. -/
structure InS (S : World → Prop) where
  val : World
  ok : S val
theorem wp_region_class {P : Program} {S : World → Prop} {id : Nat} {Q : Exit → Act → World → Prop} {a : Act} {w : World} {l : List Oper} (hm : P.follows .mixedOrders = true) (hB : Region.lexB .any l.toArray = true) (hC : S w.drew)
    (h : wpQuiet P l.toArray (fun w' => ∃ s : InS S, w' = s.val) (fun a' => ∀ w', (∃ s : InS S, w' = s.val) → Q .normal a' w') l a) : (Code.region id l.toArray true).wp P Q a w :=
  wp_region_quiet (C := fun w' => ∃ s : InS S, w' = s.val) hm hB ⟨⟨w.drew, hC⟩, rfl⟩ (by simpa using h)

/-- What the drawn region reads: a checker, a param's cell. -/
def EdgeS (b0 B : Nat) (W : World) (vv vb : Value) (m0 m1 : Int) (bp op : Nat) (p : Int) (wx : World) : Prop :=
  ChkAt wx b0 vv vb m0 m1 ∧ (bp < wx.heap.size ∧ wx.cell? ⟨bp, op, none⟩ = some (.int .i64 p)) ∧ B ≤ wx.heap.size ∧ Below B W wx
theorem EdgeS.below {b0 B : Nat} {W : World} {vv vb : Value} {m0 m1 : Int} {bp op : Nat} {p : Int} {wx w' : World} (h : EdgeS b0 B W vv vb m0 m1 bp op p wx) (hb : Below wx.heap.size wx w') : EdgeS b0 B W vv vb m0 m1 bp op p w' := by
  obtain ⟨h1, ⟨h2, h3⟩, h4, h5⟩ := h
  exact ⟨h1.below hb h1.1, ⟨Nat.lt_of_lt_of_le h2 hb.size, (hb.cell h2).trans h3⟩, Nat.le_trans h4 hb.size, h5.trans (hb.mono h4)⟩

set_option maxHeartbeats 4000000 in
theorem edge_any (values : List Int) (av : Option Addr) (cv : Nat) (blocks : List Blk) (ab : Option Addr) (cb : Nat) (m0 m1 : Int) (e : Edg) (aa : Option Addr) (ca : Nat) (w : World) (hv : SlOf w 1 RInt (.slice av values.length cv) values)
    (hbl : SlOf w 3 (RBlk w) (.slice ab blocks.length cb) blocks) (ha : SlOf w 1 RInt (.slice aa e.args.length ca) e.args) :
    Calls Try.prog 67 #[.agg #[.slice av values.length cv, .slice ab blocks.length cb, .int .i64 m0, .int .i64 m1], .agg #[.int .i64 e.block, .slice aa e.args.length ca]] w fun r w' => r = .returned (.int .i64 (edgeErr values blocks e)) ∧ Below w.heap.size w w' := by
  obtain ⟨_, _, _, lv⟩ := hv.out
  obtain ⟨_, _, _, lb⟩ := hbl.out
  obtain ⟨_, _, _, la⟩ := ha.out
  unfold longest at lv lb la
  have hb2 : Below w.heap.size w ((w.alloc (.cells #[.slice av values.length cv, .slice ab blocks.length cb, .int .i64 m0, .int .i64 m1] 84)).alloc (.cells #[.int .i64 e.block, .slice aa e.args.length ca] 47)) := ((Below.refl _ _).alloc (Nat.le_refl _) _).alloc (by simp) _
  by_cases h0 : e.block ≤ 0
  · have H : Hid (6 = edgeErr values blocks e) := by show _ = _; unfold edgeErr; rw [if_pos (Or.inl h0)]
    go_enter Try.func67, Try.ntmps67
    go_wp2
    go_ret
    exact ⟨ret_int H.out, hb2⟩
  · by_cases h1 : (blocks.length : Int) ≤ e.block
    · have H : Hid (6 = edgeErr values blocks e) := by show _ = _; unfold edgeErr; rw [if_pos (Or.inr h1)]
      go_enter Try.func67, Try.ntmps67
      go_wp2
      go_ret
      exact ⟨ret_int H.out, hb2⟩
    · have hi : e.block.toNat < blocks.length := by omega
      have hg : blocks[e.block.toNat]? = some blocks[e.block.toNat] := List.getElem?_eq_getElem hi
      have hE : edgeErr values blocks e = if e.args.length = blocks[e.block.toNat].params.length then argsErr values e.args blocks[e.block.toNat].params else 4 := by unfold edgeErr; rw [if_neg (by omega), hg]
      obtain ⟨b3, off3, cs, rfl, hcl, ⟨vp, vi, ve, rfl, hp, _, _⟩, hc⟩ := hbl.at e.block.toNat hi
      have c0 := hc 0 (by simp)
      simp at c0
      have hb3 := block_lt c0
      obtain ⟨ap, cp, rfl, lp⟩ := hp.out
      generalize blocks[e.block.toNat].params = params at *
      unfold longest at lp
      clear hg hc hcl
      have L3 := old_cell b3
      have e31 : b3 < w.heap.size + 1 := by omega
      have n0 : 0 ≤ e.block := by omega
      have n1 : e.block < (blocks.length : Int) := by omega
      by_cases h2 : e.args.length = params.length
      · rw [if_pos h2] at hE
        have HE : Hid (edgeErr values blocks e = argsErr values e.args params) := hE
        have q2 : ((e.args.length : Int) != (params.length : Int)) = false := by simp [h2]
        have H2 : Hid (e.args.length = params.length) := h2
        clear hE h2
        obtain ⟨W2, hW2⟩ : ∃ W2, W2 = (w.alloc (.cells #[.slice av values.length cv, .slice (some ⟨b3, off3, none⟩) blocks.length cb, .int .i64 m0, .int .i64 m1] 84)).alloc (.cells #[.int .i64 e.block, .slice aa e.args.length ca] 47) := ⟨_, rfl⟩
        have hbw2 : Below w.heap.size w W2 := by rw [hW2]; exact hb2
        have HC : ChkAt W2 w.heap.size (.slice av values.length cv) (.slice (some ⟨b3, off3, none⟩) blocks.length cb) m0 m1 := by rw [hW2]; exact ⟨by simp; omega, by simp, by simp, by simp, by simp⟩
        have HW : Hid (W2 = (w.alloc (.cells #[.slice av values.length cv, .slice (some ⟨b3, off3, none⟩) blocks.length cb, .int .i64 m0, .int .i64 m1] 84)).alloc (.cells #[.int .i64 e.block, .slice aa e.args.length ca] 47)) := hW2
        clear hW2 hb2
        go_enter Try.func67, Try.ntmps67
        go_wp2
        clear c0 L3 e31
        go_loopw [37] (fun i wr => ∃ k : Nat, k ≤ e.args.length ∧ i = .int .i64 k ∧ Below (w.heap.size + 1 + 1) W2 wr ∧ w.heap.size + 1 < wr.heap.size ∧ Hid (argsErr values (e.args.drop k) (params.drop k) = argsErr values e.args params)) (fun i _ => e.args.length - (intOf i).toNat)
        case atStart => exact ⟨0, Nat.zero_le _, rfl, by rw [HW.out]; exact Below.refl _ _, by simp, rfl⟩
        case round =>
          obtain ⟨k, hk, rfl, hbr, hz, HK⟩ := hrel
          have hbwr : Below w.heap.size w wr := hbw2.trans (hbr.mono (by omega))
          have hlen := H2.out
          by_cases hlt : k < e.args.length
          · have hltp : k < params.length := by omega
            obtain ⟨_, g0, g1, g2, g3⟩ := HC.below hbr (by omega)
            have HK' : Hid (argsErr values (e.args[k] :: e.args.drop (k + 1)) (params[k] :: params.drop (k + 1)) = argsErr values e.args params) := by rw [← List.drop_eq_getElem_cons hlt, ← List.drop_eq_getElem_cons hltp]; exact HK
            clear HK
            obtain ⟨ba, offa, rfl, hba, a0⟩ := int_cell (ha.below hbwr fun _ _ h => h) k hlt
            obtain ⟨bp, offp, rfl, hbp, p0⟩ := int_cell (hp.below hbwr fun _ _ h => h) k hltp
            have hvr := hv.below hbwr fun _ _ h => h
            generalize e.args[k] = a at *
            generalize params[k] = p at *
            clear hlen
            have L0 := old_cell w.heap.size
            have Lp := old_cell bp
            have lw : w.heap.size < wr.heap.size := by omega
            have i0 : (0 : Int) ≤ (k : Int) := by omega
            have i1 : (k : Int) < (e.args.length : Int) := by omega
            have i2 : (k : Int) < (params.length : Int) := by omega
            cases hval : isValueB values.length a
            · have H : Hid (2 = edgeErr values blocks e) := by
                show _ = _
                rw [HE.out, ← HK'.out]
                unfold argsErr
                rw [if_pos hval]
              clear HK'
              go_wp2_with (go_at_call 69; refine (isValue_is _ _ _ _ _ _ _ false hval _).mono ?_; rintro e w' ⟨rfl, rfl⟩)
              go_ret
              exact ⟨ret_int H.out, hbwr.alloc (by omega) _⟩
            · cases hvp : isValueB values.length p
              · have H : Hid (17 = edgeErr values blocks e) := by
                  show _ = _
                  rw [HE.out, ← HK'.out]
                  unfold argsErr
                  rw [if_neg (by simp [hval]), if_pos (Or.inl hvp)]
                clear HK'
                go_wp2_with (go_at_call 69; refine (isValue_is _ _ _ _ _ _ _ true hval _).mono ?_; rintro e w' ⟨rfl, rfl⟩)
                have hS : EdgeS w.heap.size (w.heap.size + 1 + 1) W2 (.slice av values.length cv) (.slice (some ⟨b3, off3, none⟩) blocks.length cb) m0 m1 bp (offp + k) p (wr.alloc (.cells #[.slice av values.length cv, .slice (some ⟨b3, off3, none⟩) blocks.length cb, .int .i64 m0, .int .i64 m1] 84)).drew :=
                  ⟨⟨by simp; omega, by go_simp, by go_simp, by go_simp, by go_simp⟩, ⟨by simp; omega, by go_simp⟩, by simp; omega, (hbr.alloc (by omega) _).drew⟩
                generalize hW3 : wr.alloc (.cells #[.slice av values.length cv, .slice (some ⟨b3, off3, none⟩) blocks.length cb, .int .i64 m0, .int .i64 m1] 84) = W3 at hS ⊢
                clear hW3
                have hne : Nonempty (InS (EdgeS w.heap.size (w.heap.size + 1 + 1) W2 (.slice av values.length cv) (.slice (some ⟨b3, off3, none⟩) blocks.length cb) m0 m1 bp (offp + k) p)) := ⟨⟨_, hS⟩⟩
                have t0 : ∀ s : InS (EdgeS w.heap.size (w.heap.size + 1 + 1) W2 (.slice av values.length cv) (.slice (some ⟨b3, off3, none⟩) blocks.length cb) m0 m1 bp (offp + k) p), s.val.cell? ⟨w.heap.size, 0, none⟩ = some (.slice av values.length cv) := fun s => s.ok.1.2.1
                have t1 : ∀ s : InS (EdgeS w.heap.size (w.heap.size + 1 + 1) W2 (.slice av values.length cv) (.slice (some ⟨b3, off3, none⟩) blocks.length cb) m0 m1 bp (offp + k) p), s.val.cell? ⟨w.heap.size, 1, none⟩ = some (.slice (some ⟨b3, off3, none⟩) blocks.length cb) := fun s => s.ok.1.2.2.1
                have t2 : ∀ s : InS (EdgeS w.heap.size (w.heap.size + 1 + 1) W2 (.slice av values.length cv) (.slice (some ⟨b3, off3, none⟩) blocks.length cb) m0 m1 bp (offp + k) p), s.val.cell? ⟨w.heap.size, 2, none⟩ = some (.int .i64 m0) := fun s => s.ok.1.2.2.2.1
                have t3 : ∀ s : InS (EdgeS w.heap.size (w.heap.size + 1 + 1) W2 (.slice av values.length cv) (.slice (some ⟨b3, off3, none⟩) blocks.length cb) m0 m1 bp (offp + k) p), s.val.cell? ⟨w.heap.size, 3, none⟩ = some (.int .i64 m1) := fun s => s.ok.1.2.2.2.2
                have t4 : ∀ s : InS (EdgeS w.heap.size (w.heap.size + 1 + 1) W2 (.slice av values.length cv) (.slice (some ⟨b3, off3, none⟩) blocks.length cb) m0 m1 bp (offp + k) p), s.val.cell? ⟨bp, offp + k, none⟩ = some (.int .i64 p) := fun s => s.ok.2.1.2
                refine wp_region_class (S := EdgeS w.heap.size (w.heap.size + 1 + 1) W2 (.slice av values.length cv) (.slice (some ⟨b3, off3, none⟩) blocks.length cb) m0 m1 bp (offp + k) p) (by kernel_rfl) (by kernel_rfl) hS ?_
                repeat (go_big_quiet_step ((go_at_call 69; exact (isValue_bl _ _ _ _ _ _ _ false hvp _).mono (fun e w' he => ⟨he.1, ⟨w', EdgeS.below (InS.ok _) he.2⟩, rfl⟩))))
                refine wpQuiet_nil ?_
                intro _ hw'
                obtain ⟨s, hw''⟩ := hw'
                subst hw''
                have hsb := s.ok.2.2.2
                go_wp2
                go_ret
                exact ⟨ret_int H.out, hbw2.trans (hsb.mono (by omega))⟩
              · obtain ⟨bb, off, rfl, hcell, hbb, v0, v1⟩ := classAt_cell hvr a hval
                obtain ⟨bb', off', hav, hcell', hbb', v0', v1'⟩ := classAt_cell hvr p hvp
                simp only [Option.some.injEq, Addr.mk.injEq] at hav
                obtain ⟨rfl, rfl, _⟩ := hav
                have hbW := hbr.alloc (by omega) (.cells #[.slice (some ⟨bb, off, none⟩) values.length cv, .slice (some ⟨b3, off3, none⟩) blocks.length cb, .int .i64 m0, .int .i64 m1] 84)
                have Lb := old_cell bb
                have s1 : bb < wr.heap.size + 1 := by omega
                have s2 : bp < wr.heap.size + 1 := by omega
                have s3 : w.heap.size < wr.heap.size + 1 := by omega
                have s4 : w.heap.size + 1 < wr.heap.size + 1 := by omega
                by_cases hcl : classAt values a = classAt values p
                · have H : Hid (argsErr values (e.args.drop (k + 1)) (params.drop (k + 1)) = argsErr values e.args params) := by
                    show _ = _
                    rw [← HK'.out]
                    conv => rhs; unfold argsErr
                    rw [if_neg (by simp [hval]), if_neg (by simp [hvp, hcl])]
                  have q : (classAt values a != classAt values p) = false := by simpa using hcl
                  clear HK' hcl
                  go_wp2_with (go_at_call 69; refine (isValue_is _ _ _ _ _ _ _ true hval _).mono ?_; rintro e w' ⟨rfl, rfl⟩)
                  go_region_held3 (fun wx => wx.cell? ⟨w.heap.size, 0, none⟩ = some (.slice (some ⟨bb, off, none⟩) values.length cv) ∧ wx.cell? ⟨w.heap.size, 1, none⟩ = some (.slice (some ⟨b3, off3, none⟩) blocks.length cb) ∧ wx.cell? ⟨w.heap.size, 2, none⟩ = some (.int .i64 m0) ∧ wx.cell? ⟨w.heap.size, 3, none⟩ = some (.int .i64 m1) ∧ wx.cell? ⟨bp, offp + k, none⟩ = some (.int .i64 p) ∧ wx.cell? ⟨bb, off + a.toNat, none⟩ = some (.int .i64 (classAt values a)) ∧ wx.cell? ⟨bb, off + p.toNat, none⟩ = some (.int .i64 (classAt values p)) ∧ w.heap.size < wx.heap.size ∧ w.heap.size + 1 < wx.heap.size ∧ bp < wx.heap.size ∧ bb < wx.heap.size ∧ Below (w.heap.size + 1 + 1) W2 wx) (((try (dsimp only at *)); (try go_split_ands); (repeat' apply And.intro); all_goals (first | assumption | (simp [*]; done) | (go_simp; done) | (simp; omega) | (exact hbW.drew) | (exact (hbW.drew.cell (p := ⟨_, _, none⟩) (by assumption)).trans (by assumption)) | (exact (hb.cell (p := ⟨_, _, none⟩) (by assumption)).trans (by assumption)) | (exact Nat.lt_of_lt_of_le (by assumption) hb.size) | (exact (‹Below (w.heap.size + 1 + 1) W2 _›).trans (hb.mono (by first | omega | (simp; omega)))))))
                    (first | (go_at_call 69; refine (isValue_bl _ _ _ _ _ _ _ true hvp _).mono ?_; rintro e w' ⟨rfl, hb⟩))
                  go_split_ands
                  go_wp2
                  go_roundw
                  case rel => exact ⟨k + 1, by omega, by go_num, by assumption, by assumption, H⟩
                  case measure => simp [intOf]; omega
                · have H : Hid (17 = edgeErr values blocks e) := by
                    show _ = _
                    rw [HE.out, ← HK'.out]
                    unfold argsErr
                    rw [if_neg (by simp [hval]), if_pos (Or.inr hcl)]
                  have q : (classAt values a != classAt values p) = true := by simpa using hcl
                  clear HK' hcl
                  go_wp2_with (go_at_call 69; refine (isValue_is _ _ _ _ _ _ _ true hval _).mono ?_; rintro e w' ⟨rfl, rfl⟩)
                  go_region_held3 (fun wx => wx.cell? ⟨w.heap.size, 0, none⟩ = some (.slice (some ⟨bb, off, none⟩) values.length cv) ∧ wx.cell? ⟨w.heap.size, 1, none⟩ = some (.slice (some ⟨b3, off3, none⟩) blocks.length cb) ∧ wx.cell? ⟨w.heap.size, 2, none⟩ = some (.int .i64 m0) ∧ wx.cell? ⟨w.heap.size, 3, none⟩ = some (.int .i64 m1) ∧ wx.cell? ⟨bp, offp + k, none⟩ = some (.int .i64 p) ∧ wx.cell? ⟨bb, off + a.toNat, none⟩ = some (.int .i64 (classAt values a)) ∧ wx.cell? ⟨bb, off + p.toNat, none⟩ = some (.int .i64 (classAt values p)) ∧ w.heap.size < wx.heap.size ∧ w.heap.size + 1 < wx.heap.size ∧ bp < wx.heap.size ∧ bb < wx.heap.size ∧ Below (w.heap.size + 1 + 1) W2 wx) (((try (dsimp only at *)); (try go_split_ands); (repeat' apply And.intro); all_goals (first | assumption | (simp [*]; done) | (go_simp; done) | (simp; omega) | (exact hbW.drew) | (exact (hbW.drew.cell (p := ⟨_, _, none⟩) (by assumption)).trans (by assumption)) | (exact (hb.cell (p := ⟨_, _, none⟩) (by assumption)).trans (by assumption)) | (exact Nat.lt_of_lt_of_le (by assumption) hb.size) | (exact (‹Below (w.heap.size + 1 + 1) W2 _›).trans (hb.mono (by first | omega | (simp; omega)))))))
                    (first | (go_at_call 69; refine (isValue_bl _ _ _ _ _ _ _ true hvp _).mono ?_; rintro e w' ⟨rfl, hb⟩))
                  go_split_ands
                  go_wp2
                  go_ret
                  exact ⟨ret_int H.out, hbw2.trans ((‹Below (w.heap.size + 1 + 1) W2 _›).mono (by omega))⟩
          · have H : Hid (0 = edgeErr values blocks e) := by
              show _ = _
              rw [HE.out, ← HK.out, List.drop_of_length_le (by omega)]
              rfl
            clear HK hlen
            go_wp2
            go_ret
            exact ⟨ret_int H.out, hbwr⟩
      · rw [if_neg h2] at hE
        have H : Hid (4 = edgeErr values blocks e) := hE.symm
        have q2 : ((e.args.length : Int) != (params.length : Int)) = true := by simp; omega
        clear hE h2
        go_enter Try.func67, Try.ntmps67
        go_wp2
        go_ret
        exact ⟨ret_int H.out, hb2⟩
end Go.Proofs.Ytengmgdnpojfjaa
