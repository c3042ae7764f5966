/-
  The reference's 'SourceRun': what an edge hands on.
-/
import Derived.Test.YtmkloakahefjiaaRS1
namespace Go.Proofs.Ytmkloakahefjiaa
open Go.RowKit
set_option linter.unusedVariables false

set_option maxRecDepth 8000 in
set_option maxHeartbeats 8000000 in
theorem source_args (P Y nv na ca : Nat) (aa : Option Addr) (now args : List Int) (w : World) (HX : Hid (∀ w', Below w.heap.size w w' → w'.cell? ⟨P, 1, none⟩ = some (.slice aa na ca) ∧ P < w'.heap.size)) (HY : Hid (w.rowIs Y 3 nv (nowF now))) (HAS : Hid (SlOf w 1 RInt (.slice aa na ca) args ∧ args.length = na)) (HD : Hid (∀ v ∈ args, 0 ≤ v ∧ v < (nv : Int))) (hna : na ≤ 1000) (hnv : nv ≤ 1000)
    (a0 a1 a2 a3 a4 a5 a6 a7 a8 a9 a10 a11 a13 a14 a15 a16 a17 a18 a19 a20 a21 a22 a26 a27 a28 a29 a30 a31 a32 a33 a34 a35 a36 a37 a38 a39 a40 a41 a42 a43 a44 a45 a46 a47 a48 a49 a50 a51 a52 a53 a54 a55 a56 a57 a58 a59 a60 a61 a62 a63 a64 a65 a66 a67 a68 a69 a70 a71 a72 a73 a74 a75 a76 a77 a78 a79 a80 a81 a82 a83 a84 a85 a86 a87 a88 a89 a90 a91 a92 a93 a94 a95 a96 a97 a98 a99 a100 a101 a102 a103 a104 a105 a106 a107 a108 a109 a110 a111 a112 a113 a114 a115 a116 a117 a118 a119 a120 a121 a122 a123 a124 a125 a126 a127 a128 a129 a130 a131 a132 a133 a134 a135 a136 a137 a138 a139 a140 a141 a142 a143 a144 a145 a146 a147 a148 a149 a150 a151 a152 a153 a154 a155 a156 a157 a158 a159 a160 a161 a162 a163 a164 a165 a166 a167 a168 a169 a170 a171 a172 a173 a174 a175 a176 a177 a178 a179 a180 a181 a182 a183 a184 a185 a186 a187 a188 a189 a190 a191 a192 a193 a194 : Value) (K : Act → World → Prop) (Q : Exit → Act → World → Prop)
    (hpost : (∀ (as' : Option Addr) (cs' : Nat) (wr : World), GrS w w.heap.size (.slice as' na cs') (args.map fun v => now.getD v.toNat 0) wr → ∀ (b25 b152 b153 b154 b155 b156 b157 b158 b159 b160 b161 b162 b163 b164 b165 b166 b167 b168 b169 : Value), K { tmps := (List.toArray (a0 :: a1 :: a2 :: a3 :: a4 :: a5 :: a6 :: a7 :: a8 :: a9 :: a10 :: a11 :: (.slice (some ⟨Y, 0, none⟩) nv nv : Value) :: a13 :: a14 :: a15 :: a16 :: a17 :: a18 :: a19 :: a20 :: a21 :: a22 :: (.pointer (some ⟨P, 0, none⟩) : Value) :: (.slice as' na cs' : Value) :: b25 :: a26 :: a27 :: a28 :: a29 :: a30 :: a31 :: a32 :: a33 :: a34 :: a35 :: a36 :: a37 :: a38 :: a39 :: a40 :: a41 :: a42 :: a43 :: a44 :: a45 :: a46 :: a47 :: a48 :: a49 :: a50 :: a51 :: a52 :: a53 :: a54 :: a55 :: a56 :: a57 :: a58 :: a59 :: a60 :: a61 :: a62 :: a63 :: a64 :: a65 :: a66 :: a67 :: a68 :: a69 :: a70 :: a71 :: a72 :: a73 :: a74 :: a75 :: a76 :: a77 :: a78 :: a79 :: a80 :: a81 :: a82 :: a83 :: a84 :: a85 :: a86 :: a87 :: a88 :: a89 :: a90 :: a91 :: a92 :: a93 :: a94 :: a95 :: a96 :: a97 :: a98 :: a99 :: a100 :: a101 :: a102 :: a103 :: a104 :: a105 :: a106 :: a107 :: a108 :: a109 :: a110 :: a111 :: a112 :: a113 :: a114 :: a115 :: a116 :: a117 :: a118 :: a119 :: a120 :: a121 :: a122 :: a123 :: a124 :: a125 :: a126 :: a127 :: a128 :: a129 :: a130 :: a131 :: a132 :: a133 :: a134 :: a135 :: a136 :: a137 :: a138 :: a139 :: a140 :: a141 :: a142 :: a143 :: a144 :: a145 :: a146 :: a147 :: a148 :: a149 :: a150 :: a151 :: b152 :: b153 :: b154 :: b155 :: b156 :: b157 :: b158 :: b159 :: b160 :: b161 :: b162 :: b163 :: b164 :: b165 :: b166 :: b167 :: b168 :: b169 :: a170 :: a171 :: a172 :: a173 :: a174 :: a175 :: a176 :: a177 :: a178 :: a179 :: a180 :: a181 :: a182 :: a183 :: a184 :: a185 :: a186 :: a187 :: a188 :: a189 :: a190 :: a191 :: a192 :: a193 :: a194 :: [])), defers := [] } wr))
    (cd : Code) (hcd : blkM 6 (Try.f5.body.getD .skip) = some cd) :
    cd.wp Try.prog (Exit.then K Q) { tmps := (List.toArray (a0 :: a1 :: a2 :: a3 :: a4 :: a5 :: a6 :: a7 :: a8 :: a9 :: a10 :: a11 :: (.slice (some ⟨Y, 0, none⟩) nv nv : Value) :: a13 :: a14 :: a15 :: a16 :: a17 :: a18 :: a19 :: a20 :: a21 :: a22 :: (.pointer (some ⟨P, 0, none⟩) : Value) :: (.slice none 0 0 : Value) :: (.int .i64 0 : Value) :: a26 :: a27 :: a28 :: a29 :: a30 :: a31 :: a32 :: a33 :: a34 :: a35 :: a36 :: a37 :: a38 :: a39 :: a40 :: a41 :: a42 :: a43 :: a44 :: a45 :: a46 :: a47 :: a48 :: a49 :: a50 :: a51 :: a52 :: a53 :: a54 :: a55 :: a56 :: a57 :: a58 :: a59 :: a60 :: a61 :: a62 :: a63 :: a64 :: a65 :: a66 :: a67 :: a68 :: a69 :: a70 :: a71 :: a72 :: a73 :: a74 :: a75 :: a76 :: a77 :: a78 :: a79 :: a80 :: a81 :: a82 :: a83 :: a84 :: a85 :: a86 :: a87 :: a88 :: a89 :: a90 :: a91 :: a92 :: a93 :: a94 :: a95 :: a96 :: a97 :: a98 :: a99 :: a100 :: a101 :: a102 :: a103 :: a104 :: a105 :: a106 :: a107 :: a108 :: a109 :: a110 :: a111 :: a112 :: a113 :: a114 :: a115 :: a116 :: a117 :: a118 :: a119 :: a120 :: a121 :: a122 :: a123 :: a124 :: a125 :: a126 :: a127 :: a128 :: a129 :: a130 :: a131 :: a132 :: a133 :: a134 :: a135 :: a136 :: a137 :: a138 :: a139 :: a140 :: a141 :: a142 :: a143 :: a144 :: a145 :: a146 :: a147 :: a148 :: a149 :: a150 :: a151 :: a152 :: a153 :: a154 :: a155 :: a156 :: a157 :: a158 :: a159 :: a160 :: a161 :: a162 :: a163 :: a164 :: a165 :: a166 :: a167 :: a168 :: a169 :: a170 :: a171 :: a172 :: a173 :: a174 :: a175 :: a176 :: a177 :: a178 :: a179 :: a180 :: a181 :: a182 :: a183 :: a184 :: a185 :: a186 :: a187 :: a188 :: a189 :: a190 :: a191 :: a192 :: a193 :: a194 :: [])), defers := [] } w := by
  have HPOST : Hid (∀ (as' : Option Addr) (cs' : Nat) (wr : World), GrS w w.heap.size (.slice as' na cs') (args.map fun v => now.getD v.toNat 0) wr → ∀ (b25 b152 b153 b154 b155 b156 b157 b158 b159 b160 b161 b162 b163 b164 b165 b166 b167 b168 b169 : Value), K { tmps := (List.toArray (a0 :: a1 :: a2 :: a3 :: a4 :: a5 :: a6 :: a7 :: a8 :: a9 :: a10 :: a11 :: (.slice (some ⟨Y, 0, none⟩) nv nv : Value) :: a13 :: a14 :: a15 :: a16 :: a17 :: a18 :: a19 :: a20 :: a21 :: a22 :: (.pointer (some ⟨P, 0, none⟩) : Value) :: (.slice as' na cs' : Value) :: b25 :: a26 :: a27 :: a28 :: a29 :: a30 :: a31 :: a32 :: a33 :: a34 :: a35 :: a36 :: a37 :: a38 :: a39 :: a40 :: a41 :: a42 :: a43 :: a44 :: a45 :: a46 :: a47 :: a48 :: a49 :: a50 :: a51 :: a52 :: a53 :: a54 :: a55 :: a56 :: a57 :: a58 :: a59 :: a60 :: a61 :: a62 :: a63 :: a64 :: a65 :: a66 :: a67 :: a68 :: a69 :: a70 :: a71 :: a72 :: a73 :: a74 :: a75 :: a76 :: a77 :: a78 :: a79 :: a80 :: a81 :: a82 :: a83 :: a84 :: a85 :: a86 :: a87 :: a88 :: a89 :: a90 :: a91 :: a92 :: a93 :: a94 :: a95 :: a96 :: a97 :: a98 :: a99 :: a100 :: a101 :: a102 :: a103 :: a104 :: a105 :: a106 :: a107 :: a108 :: a109 :: a110 :: a111 :: a112 :: a113 :: a114 :: a115 :: a116 :: a117 :: a118 :: a119 :: a120 :: a121 :: a122 :: a123 :: a124 :: a125 :: a126 :: a127 :: a128 :: a129 :: a130 :: a131 :: a132 :: a133 :: a134 :: a135 :: a136 :: a137 :: a138 :: a139 :: a140 :: a141 :: a142 :: a143 :: a144 :: a145 :: a146 :: a147 :: a148 :: a149 :: a150 :: a151 :: b152 :: b153 :: b154 :: b155 :: b156 :: b157 :: b158 :: b159 :: b160 :: b161 :: b162 :: b163 :: b164 :: b165 :: b166 :: b167 :: b168 :: b169 :: a170 :: a171 :: a172 :: a173 :: a174 :: a175 :: a176 :: a177 :: a178 :: a179 :: a180 :: a181 :: a182 :: a183 :: a184 :: a185 :: a186 :: a187 :: a188 :: a189 :: a190 :: a191 :: a192 :: a193 :: a194 :: [])), defers := [] } wr) := hpost
  clear hpost
  obtain rfl := Option.some.inj (hcd.symm.trans (rfl : blkM 6 (Try.f5.body.getD .skip) = some _))
  clear hcd
  obtain ⟨i3, hi3, hz3, hz31, hz32⟩ := ru_parts ruInfo
  go_wp2_with fail
  go_loopw [25, 24] (fun i s wr => ∃ (j : Nat) (as' : Option Addr) (cs' : Nat), j ≤ na ∧ i = .int .i64 j ∧ s = .slice as' j cs' ∧ Hid (GrS w w.heap.size (.slice as' j cs') ((args.take j).map fun v => now.getD v.toNat 0) wr)) (fun i _ _ => na - (intOf i).toNat)
  case atStart => exact ⟨0, _, _, Nat.zero_le _, rfl, rfl, (by show GrS _ _ _ _ _; simpa using GrS.nil w)⟩
  case round =>
    obtain ⟨j, as', cs', hj, rfl, rfl, HI⟩ := hrel
    obtain ⟨x1, lP⟩ := HX.out _ HI.out.low
    by_cases hlt : j < na
    · have hjl : j < args.length := by rw [HAS.out.2]; exact hlt
      obtain ⟨b1, o1, rfl, hb1, e0⟩ := ru_at HAS.out.1 j hjl
      have e1 := (HI.out.low.cell (p := ⟨b1, o1 + j, none⟩) hb1).trans e0
      have hdo := HD.out args[j] (List.getElem_mem hjl)
      have eg : args.getD j 0 = args[j] := by rw [List.getD_eq_getElem?_getD, List.getElem?_eq_getElem hjl]; rfl
      have ht : Hid ((args.take (j + 1)).map (fun v => now.getD v.toNat 0) = (args.take j).map (fun v => now.getD v.toNat 0) ++ [now.getD (args[j]).toNat 0]) := by
        show _ = _
        rw [List.take_succ_eq_append_getElem hjl, List.map_append]
        rfl
      have HTL : Hid (((args.take j).map fun v => now.getD v.toNat 0).length = j) := by show _ = _; rw [List.length_map, List.length_take]; omega
      rw [eg] at e1
      clear e0 eg
      generalize args[j] = v at *
      obtain ⟨V, hV⟩ : ∃ V : Nat, v = V := ⟨v.toNat, by omega⟩
      subst hV
      rw [Int.toNat_natCast] at ht
      have v1 : V < nv := by omega
      have y1 : wr.cell? ⟨Y, V, none⟩ = some (.int .i64 (now.getD V 0)) := (HI.out.low.cell HY.out.lt).trans (HY.out.cell v1)
      generalize now.getD V 0 = x at *
      generalize (args.take j).map (fun v => now.getD v.toNat 0) = gl at *
      have hle := HI.out.le
      have own := HI.out.own
      rw [HTL.out] at own
      have oA := own.alloc (.cells #[.int .i64 x] 3)
      clear hdo
      go_wp2_with (at_builtin; go_must (refine wpList_append_lies _ rfl _ _ 22 rfl w.heap.size 3 i3 (.int .i64 0) 1 8 Try.underlying22 hi3 hz3 hz31 hz32 rfl (by omega) (.slice as' j cs') j _ (by rfl) oA ⟨wr.heap.size, 0, none⟩ 1 1 [.int .i64 x] (by rfl) (by rfl) ?e1 ?e2 (by omega) ?e3 ?e4 ?e5 (wr.heap.size + 1) ?e6 ?_))
      rotate_left
      any_goals (first | (exact ru_news rfl) | rfl | (show Value.oneCell' _ = true; simp [Value.oneCell']) | (intro u hu; simp at hu; subst hu; rfl) | (unfold maxLen; omega) | omega | (simp; omega) | (simp; rfl) | (simp; done))
      intro g cap wb2 hown hgrow hat hgl
      have HP : Hid (GrS w w.heap.size (.slice (some ⟨g, 0, none⟩) (j + 1) cap) ((args.take (j + 1)).map fun v => now.getD v.toNat 0) wb2) := by
        show GrS _ _ _ _ _
        rw [ht.out]
        exact (HI.out.below ((Below.refl _ _).alloc (Nat.le_refl _) _)).push (by rw [HTL.out]; rfl) hgrow hown
      clear hown hgrow hat hgl oA own HI ht HTL e1 y1 x1 lP
      go_wp2
      go_roundw
      case rel => exact ⟨j + 1, _, _, by omega, by go_num, rfl, HP⟩
      case measure => simp [intOf]; omega
    · have hjn : j = na := by omega
      subst hjn
      have HE : Hid (GrS w w.heap.size (.slice as' j cs') (args.map fun v => now.getD v.toNat 0) wr) := by
        have h1 := HI.out
        rw [List.take_of_length_le (by have := HAS.out.2; omega)] at h1
        exact h1
      clear HI
      go_wp2
      exact HPOST.out as' cs' _ HE.out _ _ _ _ _ _ _ _ _ _ _ _ _ _ _ _ _ _ _

set_option maxRecDepth 8000 in
set_option maxHeartbeats 8000000 in
theorem source_hand (N P Y nv nb cb na cp cs' t b5 off5 : Nat) (ap as' : Option Addr) (now ps gs : List Int) (w : World) (HX : Hid (∀ w', w.grownBy w' (some Y) → w'.cell? ⟨N, 1, none⟩ = some (.slice (some ⟨b5, off5, none⟩) nb cb) ∧ w'.cell? ⟨P, 0, none⟩ = some (.int .i64 (t : Int)) ∧ w'.cell? ⟨b5, off5 + t * 3, none⟩ = some (.slice ap na cp) ∧ N < w'.heap.size ∧ P < w'.heap.size ∧ b5 < w'.heap.size)) (HY : Hid (w.rowIs Y 3 nv (nowF (setsM (ps.take 0) (gs.take 0) now)))) (HLN : Hid (now.length = nv)) (HPS : Hid (SlOf w 1 RInt (.slice ap na cp) ps ∧ ps.length = na)) (HPn : Hid (ps = [] ∨ ∀ g, (Value.slice ap na cp).ownBlock = some g → g ≠ Y)) (HGS : Hid (SlOf w 1 RInt (.slice as' na cs') gs ∧ gs.length = na)) (HOn : Hid (gs = [] ∨ ∀ g, (Value.slice as' na cs').ownBlock = some g → g ≠ Y)) (HPD : Hid (∀ v ∈ ps, 0 ≤ v ∧ v < (nv : Int))) (ht : t < nb) (hna : na ≤ 1000) (hnv : nv ≤ 1000) (hnb : nb ≤ 1000)
    (a0 a1 a2 a3 a5 a6 a7 a8 a9 a10 a11 a13 a14 a15 a16 a17 a18 a19 a20 a21 a22 a25 a27 a28 a29 a30 a31 a32 a33 a34 a35 a36 a37 a38 a39 a40 a41 a42 a43 a44 a45 a46 a47 a48 a49 a50 a51 a52 a53 a54 a55 a56 a57 a58 a59 a60 a61 a62 a63 a64 a65 a66 a67 a68 a69 a70 a71 a72 a73 a74 a75 a76 a77 a78 a79 a80 a81 a82 a83 a84 a85 a86 a87 a88 a89 a90 a91 a92 a93 a94 a95 a96 a97 a98 a99 a100 a101 a102 a103 a104 a105 a106 a107 a108 a109 a110 a111 a112 a113 a114 a115 a116 a117 a118 a119 a120 a121 a122 a123 a124 a125 a126 a127 a128 a129 a130 a131 a132 a133 a134 a135 a136 a137 a138 a139 a140 a141 a142 a143 a144 a145 a146 a147 a148 a149 a150 a151 a152 a153 a154 a155 a156 a157 a158 a159 a160 a161 a162 a163 a164 a165 a166 a167 a168 a169 a170 a171 a172 a173 a174 a175 a176 a177 a178 a179 a180 a181 a182 a183 a184 a185 a186 a187 a188 a189 a190 a191 a192 a193 a194 : Value) (K : Act → World → Prop) (Q : Exit → Act → World → Prop) (HQP : Hid (∀ c a a' w, Q (.panic c) a w → a'.defers = a.defers → Q (.panic c) a' w))
    (hpost : (∀ (wr : World), wr.rowIs Y 3 nv (nowF (setsM ps gs now)) → w.grownBy wr (some Y) → ∀ (b26 b170 b171 b172 b173 b174 b175 b176 b177 b178 b179 b180 b181 b182 b183 b184 b185 b186 b187 b188 b189 b190 b191 : Value), K { tmps := (List.toArray (a0 :: a1 :: a2 :: a3 :: (.pointer (some ⟨N, 0, none⟩) : Value) :: a5 :: a6 :: a7 :: a8 :: a9 :: a10 :: a11 :: (.slice (some ⟨Y, 0, none⟩) nv nv : Value) :: a13 :: a14 :: a15 :: a16 :: a17 :: a18 :: a19 :: a20 :: a21 :: a22 :: (.pointer (some ⟨P, 0, none⟩) : Value) :: (.slice as' na cs' : Value) :: a25 :: b26 :: a27 :: a28 :: a29 :: a30 :: a31 :: a32 :: a33 :: a34 :: a35 :: a36 :: a37 :: a38 :: a39 :: a40 :: a41 :: a42 :: a43 :: a44 :: a45 :: a46 :: a47 :: a48 :: a49 :: a50 :: a51 :: a52 :: a53 :: a54 :: a55 :: a56 :: a57 :: a58 :: a59 :: a60 :: a61 :: a62 :: a63 :: a64 :: a65 :: a66 :: a67 :: a68 :: a69 :: a70 :: a71 :: a72 :: a73 :: a74 :: a75 :: a76 :: a77 :: a78 :: a79 :: a80 :: a81 :: a82 :: a83 :: a84 :: a85 :: a86 :: a87 :: a88 :: a89 :: a90 :: a91 :: a92 :: a93 :: a94 :: a95 :: a96 :: a97 :: a98 :: a99 :: a100 :: a101 :: a102 :: a103 :: a104 :: a105 :: a106 :: a107 :: a108 :: a109 :: a110 :: a111 :: a112 :: a113 :: a114 :: a115 :: a116 :: a117 :: a118 :: a119 :: a120 :: a121 :: a122 :: a123 :: a124 :: a125 :: a126 :: a127 :: a128 :: a129 :: a130 :: a131 :: a132 :: a133 :: a134 :: a135 :: a136 :: a137 :: a138 :: a139 :: a140 :: a141 :: a142 :: a143 :: a144 :: a145 :: a146 :: a147 :: a148 :: a149 :: a150 :: a151 :: a152 :: a153 :: a154 :: a155 :: a156 :: a157 :: a158 :: a159 :: a160 :: a161 :: a162 :: a163 :: a164 :: a165 :: a166 :: a167 :: a168 :: a169 :: b170 :: b171 :: b172 :: b173 :: b174 :: b175 :: b176 :: b177 :: b178 :: b179 :: b180 :: b181 :: b182 :: b183 :: b184 :: b185 :: b186 :: b187 :: b188 :: b189 :: b190 :: b191 :: a192 :: a193 :: a194 :: [])), defers := [] } wr))
    (cd : Code) (hcd : blkM 8 (Try.f5.body.getD .skip) = some cd) :
    cd.wp Try.prog (Exit.then K Q) { tmps := (List.toArray (a0 :: a1 :: a2 :: a3 :: (.pointer (some ⟨N, 0, none⟩) : Value) :: a5 :: a6 :: a7 :: a8 :: a9 :: a10 :: a11 :: (.slice (some ⟨Y, 0, none⟩) nv nv : Value) :: a13 :: a14 :: a15 :: a16 :: a17 :: a18 :: a19 :: a20 :: a21 :: a22 :: (.pointer (some ⟨P, 0, none⟩) : Value) :: (.slice as' na cs' : Value) :: a25 :: (.int .i64 0 : Value) :: a27 :: a28 :: a29 :: a30 :: a31 :: a32 :: a33 :: a34 :: a35 :: a36 :: a37 :: a38 :: a39 :: a40 :: a41 :: a42 :: a43 :: a44 :: a45 :: a46 :: a47 :: a48 :: a49 :: a50 :: a51 :: a52 :: a53 :: a54 :: a55 :: a56 :: a57 :: a58 :: a59 :: a60 :: a61 :: a62 :: a63 :: a64 :: a65 :: a66 :: a67 :: a68 :: a69 :: a70 :: a71 :: a72 :: a73 :: a74 :: a75 :: a76 :: a77 :: a78 :: a79 :: a80 :: a81 :: a82 :: a83 :: a84 :: a85 :: a86 :: a87 :: a88 :: a89 :: a90 :: a91 :: a92 :: a93 :: a94 :: a95 :: a96 :: a97 :: a98 :: a99 :: a100 :: a101 :: a102 :: a103 :: a104 :: a105 :: a106 :: a107 :: a108 :: a109 :: a110 :: a111 :: a112 :: a113 :: a114 :: a115 :: a116 :: a117 :: a118 :: a119 :: a120 :: a121 :: a122 :: a123 :: a124 :: a125 :: a126 :: a127 :: a128 :: a129 :: a130 :: a131 :: a132 :: a133 :: a134 :: a135 :: a136 :: a137 :: a138 :: a139 :: a140 :: a141 :: a142 :: a143 :: a144 :: a145 :: a146 :: a147 :: a148 :: a149 :: a150 :: a151 :: a152 :: a153 :: a154 :: a155 :: a156 :: a157 :: a158 :: a159 :: a160 :: a161 :: a162 :: a163 :: a164 :: a165 :: a166 :: a167 :: a168 :: a169 :: a170 :: a171 :: a172 :: a173 :: a174 :: a175 :: a176 :: a177 :: a178 :: a179 :: a180 :: a181 :: a182 :: a183 :: a184 :: a185 :: a186 :: a187 :: a188 :: a189 :: a190 :: a191 :: a192 :: a193 :: a194 :: [])), defers := [] } w := by
  have HPOST : Hid (∀ (wr : World), wr.rowIs Y 3 nv (nowF (setsM ps gs now)) → w.grownBy wr (some Y) → ∀ (b26 b170 b171 b172 b173 b174 b175 b176 b177 b178 b179 b180 b181 b182 b183 b184 b185 b186 b187 b188 b189 b190 b191 : Value), K { tmps := (List.toArray (a0 :: a1 :: a2 :: a3 :: (.pointer (some ⟨N, 0, none⟩) : Value) :: a5 :: a6 :: a7 :: a8 :: a9 :: a10 :: a11 :: (.slice (some ⟨Y, 0, none⟩) nv nv : Value) :: a13 :: a14 :: a15 :: a16 :: a17 :: a18 :: a19 :: a20 :: a21 :: a22 :: (.pointer (some ⟨P, 0, none⟩) : Value) :: (.slice as' na cs' : Value) :: a25 :: b26 :: a27 :: a28 :: a29 :: a30 :: a31 :: a32 :: a33 :: a34 :: a35 :: a36 :: a37 :: a38 :: a39 :: a40 :: a41 :: a42 :: a43 :: a44 :: a45 :: a46 :: a47 :: a48 :: a49 :: a50 :: a51 :: a52 :: a53 :: a54 :: a55 :: a56 :: a57 :: a58 :: a59 :: a60 :: a61 :: a62 :: a63 :: a64 :: a65 :: a66 :: a67 :: a68 :: a69 :: a70 :: a71 :: a72 :: a73 :: a74 :: a75 :: a76 :: a77 :: a78 :: a79 :: a80 :: a81 :: a82 :: a83 :: a84 :: a85 :: a86 :: a87 :: a88 :: a89 :: a90 :: a91 :: a92 :: a93 :: a94 :: a95 :: a96 :: a97 :: a98 :: a99 :: a100 :: a101 :: a102 :: a103 :: a104 :: a105 :: a106 :: a107 :: a108 :: a109 :: a110 :: a111 :: a112 :: a113 :: a114 :: a115 :: a116 :: a117 :: a118 :: a119 :: a120 :: a121 :: a122 :: a123 :: a124 :: a125 :: a126 :: a127 :: a128 :: a129 :: a130 :: a131 :: a132 :: a133 :: a134 :: a135 :: a136 :: a137 :: a138 :: a139 :: a140 :: a141 :: a142 :: a143 :: a144 :: a145 :: a146 :: a147 :: a148 :: a149 :: a150 :: a151 :: a152 :: a153 :: a154 :: a155 :: a156 :: a157 :: a158 :: a159 :: a160 :: a161 :: a162 :: a163 :: a164 :: a165 :: a166 :: a167 :: a168 :: a169 :: b170 :: b171 :: b172 :: b173 :: b174 :: b175 :: b176 :: b177 :: b178 :: b179 :: b180 :: b181 :: b182 :: b183 :: b184 :: b185 :: b186 :: b187 :: b188 :: b189 :: b190 :: b191 :: a192 :: a193 :: a194 :: [])), defers := [] } wr) := hpost
  clear hpost
  obtain rfl := Option.some.inj (hcd.symm.trans (rfl : blkM 8 (Try.f5.body.getD .skip) = some _))
  clear hcd
  have ht2 : (t : Int) < (nb : Int) := by omega
  go_wp2_with fail
  go_loopw [26] (fun i w2 => ∃ k : Nat, k ≤ na ∧ i = .int .i64 k ∧ Hid (w2.rowIs Y 3 nv (nowF (setsM (ps.take k) (gs.take k) now))) ∧ Hid (w.grownBy w2 (some Y))) (fun i _ => na - (intOf i).toNat)
  case atStart => exact ⟨0, Nat.zero_le _, rfl, HY, gr_below (Below.refl _ _)⟩
  case round =>
    clear HY
    obtain ⟨k, hk, rfl, HI, HG⟩ := hrel
    by_cases hlt : k < na
    · have hkp : k < ps.length := by rw [HPS.out.2]; exact hlt
      have hkg : k < gs.length := by rw [HGS.out.2]; exact hlt
      obtain ⟨b1, o1, rfl, hb1, e0⟩ := ru_at HPS.out.1 k hkp
      obtain ⟨b2, o2, rfl, hb2, f0⟩ := ru_at HGS.out.1 k hkg
      obtain ⟨x1, x0, x2, lN, lP, l5⟩ := HX.out _ HG.out
      have nb1 : b1 ≠ Y := by
        rcases HPn.out with e | h
        · rw [e] at hkp; simp at hkp
        · exact h b1 rfl
      have nb2 : b2 ≠ Y := by
        rcases HOn.out with e | h
        · rw [e] at hkg; simp at hkg
        · exact h b2 rfl
      have e1 := gr_cell HG.out nb1 e0
      have f1 := gr_cell HG.out nb2 f0
      have hpd := HPD.out ps[k] (List.getElem_mem hkp)
      have eg : ps.getD k 0 = ps[k] := by rw [List.getD_eq_getElem?_getD, List.getElem?_eq_getElem hkp]; rfl
      have hst := sets_take ps gs now k hkp hkg
      rw [eg] at e1 hst
      clear e0 f0 eg
      generalize ps[k] = v at *
      obtain ⟨V, hV⟩ : ∃ V : Nat, v = V := ⟨v.toNat, by omega⟩
      subst hV
      have v1 : V < nv := by omega
      have v2 : (V : Int) < (nv : Int) := by omega
      have k2 : (k : Int) < (na : Int) := by omega
      rw [Int.toNat_natCast] at hst
      generalize gs.getD k 0 = g at *
      have y1 := HI.out.cell v1
      have z1 := HI.out.frozen V
      have HR3 : Hid ((wr.setCell ⟨Y, V, none⟩ (.int .i64 g)).drew.rowIs Y 3 nv (nowF (setsM (ps.take (k + 1)) (gs.take (k + 1)) now))) := by
        show World.rowIs _ _ _ _ _
        rw [hst]
        exact ((HI.out.set V (.int .i64 g)).congr fun i hi => nowF_set _ V nv g (by rw [setsM_length]; exact HLN.out) i hi).drew
      have HG3 : Hid (w.grownBy (wr.setCell ⟨Y, V, none⟩ (.int .i64 g)).drew (some Y)) := by
        have hd7 : Below (wr.setCell ⟨Y, V, none⟩ (.int .i64 g)).heap.size (wr.setCell ⟨Y, V, none⟩ (.int .i64 g)) (wr.setCell ⟨Y, V, none⟩ (.int .i64 g)).drew := (Below.refl _ _).drew
        exact gr_trans (gr_trans HG.out gr_set) (gr_below hd7)
      have HSF : Hid (∀ w', wr.grownBy w' (some Y) → (fun w' => w'.cell? ⟨N, 1, none⟩ = some (.slice (some ⟨b5, off5, none⟩) nb cb) ∧ w'.cell? ⟨P, 0, none⟩ = some (.int .i64 (t : Int)) ∧ w'.cell? ⟨b5, off5 + t * 3, none⟩ = some (.slice (some ⟨b1, o1, none⟩) na cp) ∧ w'.cell? ⟨b1, o1 + k, none⟩ = some (.int .i64 (V : Int)) ∧ w'.cell? ⟨b2, o2 + k, none⟩ = some (.int .i64 g)) w') := fun w' hh => by
        obtain ⟨a1, a0, a2, _, _, _⟩ := HX.out _ (gr_trans HG.out hh)
        exact ⟨a1, a0, a2, gr_cell hh nb1 e1, gr_cell hh nb2 f1⟩
      clear hst hpd HI HG x1 x0 x2
      go_upto_region 43 with fail
      clear e1 f1
      refine wp_region_X (fun w' => w'.cell? ⟨N, 1, none⟩ = some (.slice (some ⟨b5, off5, none⟩) nb cb) ∧ w'.cell? ⟨P, 0, none⟩ = some (.int .i64 (t : Int)) ∧ w'.cell? ⟨b5, off5 + t * 3, none⟩ = some (.slice (some ⟨b1, o1, none⟩) na cp) ∧ w'.cell? ⟨b1, o1 + k, none⟩ = some (.int .i64 (V : Int)) ∧ w'.cell? ⟨b2, o2 + k, none⟩ = some (.int .i64 g)) 99 (by kernel_rfl) (HSF.out _ (gr_below (Below.refl _ _).drew)) (fun hHeld => ?_)
      refine wpXt (v := ?_) 0 rfl (by kernel_rfl) (fun c a' w' h => HQP.out c _ _ w' h rfl) (by rfl) ?_ hHeld ?_
      rotate_left
      · intro w' hSw
        go_simp <;> with_reducible rfl
      try simp only [Act.put, List.setIfInBounds_toArray, List.set_cons_zero, List.set_cons_succ]
      refine wpXt (v := ?_) 1 rfl (by kernel_rfl) (fun c a' w' h => HQP.out c _ _ w' h rfl) (by rfl) ?_ hHeld ?_
      rotate_left
      · intro w' hSw
        go_simp <;> with_reducible rfl
      try simp only [Act.put, List.setIfInBounds_toArray, List.set_cons_zero, List.set_cons_succ]
      refine wpXt (v := ?_) 2 rfl (by kernel_rfl) (fun c a' w' h => HQP.out c _ _ w' h rfl) (by rfl) ?_ hHeld ?_
      rotate_left
      · intro w' hSw
        go_simp <;> with_reducible rfl
      try simp only [Act.put, List.setIfInBounds_toArray, List.set_cons_zero, List.set_cons_succ]
      refine wpXt (v := ?_) 3 rfl (by kernel_rfl) (fun c a' w' h => HQP.out c _ _ w' h rfl) (by rfl) ?_ hHeld ?_
      rotate_left
      · intro w' hSw
        go_simp <;> with_reducible rfl
      try simp only [Act.put, List.setIfInBounds_toArray, List.set_cons_zero, List.set_cons_succ]
      refine wpXt (v := ?_) 4 rfl (by kernel_rfl) (fun c a' w' h => HQP.out c _ _ w' h rfl) (by rfl) ?_ hHeld ?_
      rotate_left
      · intro w' hSw
        go_simp <;> with_reducible rfl
      try simp only [Act.put, List.setIfInBounds_toArray, List.set_cons_zero, List.set_cons_succ]
      refine wpXt (v := ?_) 5 rfl (by kernel_rfl) (fun c a' w' h => HQP.out c _ _ w' h rfl) (by rfl) ?_ hHeld ?_
      rotate_left
      · intro w' hSw
        go_simp <;> with_reducible rfl
      try simp only [Act.put, List.setIfInBounds_toArray, List.set_cons_zero, List.set_cons_succ]
      refine wpXt (v := ?_) 6 rfl (by kernel_rfl) (fun c a' w' h => HQP.out c _ _ w' h rfl) (by rfl) ?_ hHeld ?_
      rotate_left
      · intro w' hSw
        go_simp <;> with_reducible rfl
      try simp only [Act.put, List.setIfInBounds_toArray, List.set_cons_zero, List.set_cons_succ]
      refine wpXt (v := ?_) 7 rfl (by kernel_rfl) (fun c a' w' h => HQP.out c _ _ w' h rfl) (by rfl) ?_ hHeld ?_
      rotate_left
      · intro w' hSw
        go_simp <;> with_reducible rfl
      try simp only [Act.put, List.setIfInBounds_toArray, List.set_cons_zero, List.set_cons_succ]
      refine wpXt (v := ?_) 8 rfl (by kernel_rfl) (fun c a' w' h => HQP.out c _ _ w' h rfl) (by rfl) ?_ hHeld ?_
      rotate_left
      · intro w' hSw
        go_simp <;> with_reducible rfl
      try simp only [Act.put, List.setIfInBounds_toArray, List.set_cons_zero, List.set_cons_succ]
      refine wpXt (v := ?_) 9 rfl (by kernel_rfl) (fun c a' w' h => HQP.out c _ _ w' h rfl) (by rfl) ?_ hHeld ?_
      rotate_left
      · intro w' hSw
        go_simp <;> with_reducible rfl
      try simp only [Act.put, List.setIfInBounds_toArray, List.set_cons_zero, List.set_cons_succ]
      refine wpXt (v := ?_) 10 rfl (by kernel_rfl) (fun c a' w' h => HQP.out c _ _ w' h rfl) (by rfl) ?_ hHeld ?_
      rotate_left
      · intro w' hSw
        go_simp <;> with_reducible rfl
      try simp only [Act.put, List.setIfInBounds_toArray, List.set_cons_zero, List.set_cons_succ]
      refine wpXt (v := ?_) 11 rfl (by kernel_rfl) (fun c a' w' h => HQP.out c _ _ w' h rfl) (by rfl) ?_ hHeld ?_
      rotate_left
      · intro w' hSw
        go_simp <;> with_reducible rfl
      try simp only [Act.put, List.setIfInBounds_toArray, List.set_cons_zero, List.set_cons_succ]
      refine wpXt (v := ?_) 12 rfl (by kernel_rfl) (fun c a' w' h => HQP.out c _ _ w' h rfl) (by rfl) ?_ hHeld ?_
      rotate_left
      · intro w' hSw
        go_simp <;> with_reducible rfl
      try simp only [Act.put, List.setIfInBounds_toArray, List.set_cons_zero, List.set_cons_succ]
      refine wpXt (v := ?_) 13 rfl (by kernel_rfl) (fun c a' w' h => HQP.out c _ _ w' h rfl) (by rfl) ?_ hHeld ?_
      rotate_left
      · intro w' hSw
        go_simp <;> with_reducible rfl
      try simp only [Act.put, List.setIfInBounds_toArray, List.set_cons_zero, List.set_cons_succ]
      refine wpXt (v := ?_) 14 rfl (by kernel_rfl) (fun c a' w' h => HQP.out c _ _ w' h rfl) (by rfl) ?_ hHeld ?_
      rotate_left
      · intro w' hSw
        go_simp <;> with_reducible rfl
      try simp only [Act.put, List.setIfInBounds_toArray, List.set_cons_zero, List.set_cons_succ]
      refine wpXt (v := ?_) 15 rfl (by kernel_rfl) (fun c a' w' h => HQP.out c _ _ w' h rfl) (by rfl) ?_ hHeld ?_
      rotate_left
      · intro w' hSw
        go_simp <;> with_reducible rfl
      try simp only [Act.put, List.setIfInBounds_toArray, List.set_cons_zero, List.set_cons_succ]
      refine wpXs 16 rfl (by kernel_rfl) (fun K hK => ?_)
      go_simp
      refine hK.out _ _ (HSF.out _ (gr_trans (gr_below (Below.refl _ _).drew) gr_set)) (fun hHeld => ?_)
      clear hK K
      try simp only [Act.put, List.setIfInBounds_toArray, List.set_cons_zero, List.set_cons_succ]
      refine wpAnyX_done (by kernel_rfl) ?_ _

      go_wp2
      go_roundw
      case rel => exact ⟨k + 1, by omega, by go_num, HR3, HG3⟩
      case measure => simp [intOf]; omega
    · have HE : Hid (wr.rowIs Y 3 nv (nowF (setsM ps gs now)) ∧ w.grownBy wr (some Y)) := by
        have h1 := HI.out
        rw [List.take_of_length_le (by have := HPS.out.2; omega), List.take_of_length_le (by have := HGS.out.2; omega)] at h1
        exact ⟨h1, HG.out⟩
      clear HI HG
      go_wp2
      exact HPOST.out _ HE.out.1 HE.out.2 _ _ _ _ _ _ _ _ _ _ _ _ _ _ _ _ _ _ _ _ _ _ _
end Go.Proofs.Ytmkloakahefjiaa
