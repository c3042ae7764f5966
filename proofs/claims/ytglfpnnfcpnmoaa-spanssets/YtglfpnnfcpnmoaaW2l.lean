/-
  The defs of the mason's 'instr': its second loop.
-/
import Derived.Test.YtglfpnnfcpnmoaaW2
import Derived.Deep.CutRange
namespace Go.Proofs.Ytglfpnnfcpnmoaa
open Go.RowKit
set_option linter.unusedVariables false

set_option maxRecDepth 8000 in
set_option maxHeartbeats 16000000 in
theorem instr_defs (N : Nat) (κ : Nat → Nat) (w : World) (X P : Nat) (s : Ms) (p : Pc) (pop pfl : Int) (U0 : Wk) (κ1 : Nat → Nat) (vo1 : Value) (wc : World) (hv : s.f.values.length ≤ 10000) (HM : Hid (MsOk s)) (hPX : P < X) (b0 : -9223372036854775808 ≤ p.b) (b1 : p.b ≤ 9223372036854775807) (c0 : -9223372036854775808 ≤ p.c) (c1 : p.c ≤ 9223372036854775807) (pf0 : 0 ≤ pfl) (pf1 : pfl < 1073741824) (hu3 : U0.ops.length ≤ 3)
    (HI1 : Hid (MIn N κ w X P s p pop κ1 wc U0 [] vo1 (.slice none 0 0))) (HD0 : Hid (DfS s p pfl U0 0 s.f.values (-1) U0))
    (a1 a2 a10 a11 a12 a16 a17 a18 a19 a20 a21 a22 a23 a24 a25 a26 a27 a28 a29 a30 a31 a32 a33 a34 a35 a36 a37 a38 a39 a40 a41 a42 a43 a44 a45 a46 a47 a48 a49 a50 a51 a52 a53 a54 a55 a56 a57 a58 a59 a60 a61 a62 a63 a64 a65 a66 a67 a68 a69 a70 a71 a72 a73 a74 a75 a76 a77 a78 a79 a80 a81 a82 a83 a84 a85 a86 a87 a88 a89 a90 a91 a92 a93 a94 a95 a96 a97 a98 a99 a100 a101 a102 a103 a104 a105 a106 a107 a108 a109 a110 a111 a112 a113 a114 a115 a116 a117 a118 a119 a120 a121 a122 a123 a124 a125 a126 a127 a128 a129 a130 a131 a132 a133 a134 a135 a136 a137 a138 a139 a140 a141 a142 a143 a144 a145 a146 a147 a148 a149 a150 a151 a152 a153 a154 a155 a156 a157 a158 a159 a160 a161 a162 a163 a164 a165 a166 a167 a168 a169 a170 a171 a172 a173 a174 a175 a176 a177 a178 a179 a180 a181 a182 a183 a184 a185 a186 a187 a188 a189 a190 a191 a192 a193 a194 a195 a196 a197 a198 a199 a200 a201 a202 a203 a204 a205 a206 a207 a208 a209 a210 a211 a212 a213 a214 a215 a216 a217 a218 a219 a220 a221 a222 a223 a224 a225 a226 a227 a228 a229 a230 a231 a232 a233 a234 a235 a236 a237 a238 a239 a240 a241 a242 a243 a244 a245 a246 a247 a248 a249 a250 a251 a252 a253 a254 a255 a256 a257 a258 a259 a260 a261 a262 a263 a264 a265 a266 a267 : Value) (K : Act → World → Prop) (Q : Exit → Act → World → Prop)
    (hpost : ∀ (j : Nat) (vals : List Int) (reused : Int) (x : Wk) (κr : Nat → Nat) (vo : Value) (wr : World), (j : Int) ≤ 1 + pfl / 2 ^ 8 % 2 → ¬ (j : Int) < 1 + pfl / 2 ^ 8 % 2 → Hid (MIn N κ w X P { s with f := ⟨vals, s.f.blocks⟩ } p pop κr wr x [] vo (.slice none 0 0)) → Hid (DfS s p pfl U0 j vals reused x) → ∀ (b16 b17 b18 b19 b105 b106 b107 b108 b109 b110 b111 b112 b113 b114 b115 b116 b117 b118 b119 b120 b121 b122 b123 b124 b125 b126 b127 b128 b129 b130 b131 b132 b133 b134 b135 b136 b137 b138 b139 b140 b141 b142 b143 b144 b145 b146 b147 b148 b149 b150 b151 b152 b153 b154 b155 b156 b157 b158 b159 b160 b161 b162 b163 b164 b165 b166 b167 b168 b169 b170 b171 b172 b173 b174 b175 b176 b177 b178 b179 b180 b181 b182 b183 b184 b185 b186 b187 b188 b189 b190 b191 b192 b193 b194 b195 b196 b197 b198 b199 b200 b201 b202 b203 b204 b205 b206 b207 b208 b209 b210 b211 b212 b213 b214 b215 b216 b217 b218 b219 b220 : Value), K { tmps := (List.toArray ((.pointer (some ⟨P, 0, none⟩) : Value) :: a1 :: a2 :: (.pointer (some ⟨X, 0, none⟩) : Value) :: (.pointer (some ⟨X + 1, 0, none⟩) : Value) :: (.pointer (some ⟨X + 1 + 1, 0, none⟩) : Value) :: (.slice (some ⟨X + 1 + 1 + 1, 0, none⟩) 2 2 : Value) :: (.slice (some ⟨X + 1 + 1 + 1 + 1, 0, none⟩) 2 2 : Value) :: (.int .i64 x.limits : Value) :: (.int .i64 pfl : Value) :: a10 :: a11 :: a12 :: (.int .i64 U0.ops.length : Value) :: (.int .i64 reused : Value) :: (.int .i64 j : Value) :: b16 :: b17 :: b18 :: b19 :: a20 :: a21 :: a22 :: a23 :: a24 :: a25 :: a26 :: a27 :: a28 :: a29 :: a30 :: a31 :: a32 :: a33 :: a34 :: a35 :: a36 :: a37 :: a38 :: a39 :: a40 :: a41 :: a42 :: a43 :: a44 :: a45 :: a46 :: a47 :: a48 :: a49 :: a50 :: a51 :: a52 :: a53 :: a54 :: a55 :: a56 :: a57 :: a58 :: a59 :: a60 :: a61 :: a62 :: a63 :: a64 :: a65 :: a66 :: a67 :: a68 :: a69 :: a70 :: a71 :: a72 :: a73 :: a74 :: a75 :: a76 :: a77 :: a78 :: a79 :: a80 :: a81 :: a82 :: a83 :: a84 :: a85 :: a86 :: a87 :: a88 :: a89 :: a90 :: a91 :: a92 :: a93 :: a94 :: a95 :: a96 :: a97 :: a98 :: a99 :: a100 :: a101 :: a102 :: a103 :: a104 :: b105 :: b106 :: b107 :: b108 :: b109 :: b110 :: b111 :: b112 :: b113 :: b114 :: b115 :: b116 :: b117 :: b118 :: b119 :: b120 :: b121 :: b122 :: b123 :: b124 :: b125 :: b126 :: b127 :: b128 :: b129 :: b130 :: b131 :: b132 :: b133 :: b134 :: b135 :: b136 :: b137 :: b138 :: b139 :: b140 :: b141 :: b142 :: b143 :: b144 :: b145 :: b146 :: b147 :: b148 :: b149 :: b150 :: b151 :: b152 :: b153 :: b154 :: b155 :: b156 :: b157 :: b158 :: b159 :: b160 :: b161 :: b162 :: b163 :: b164 :: b165 :: b166 :: b167 :: b168 :: b169 :: b170 :: b171 :: b172 :: b173 :: b174 :: b175 :: b176 :: b177 :: b178 :: b179 :: b180 :: b181 :: b182 :: b183 :: b184 :: b185 :: b186 :: b187 :: b188 :: b189 :: b190 :: b191 :: b192 :: b193 :: b194 :: b195 :: b196 :: b197 :: b198 :: b199 :: b200 :: b201 :: b202 :: b203 :: b204 :: b205 :: b206 :: b207 :: b208 :: b209 :: b210 :: b211 :: b212 :: b213 :: b214 :: b215 :: b216 :: b217 :: b218 :: b219 :: b220 :: a221 :: a222 :: a223 :: a224 :: a225 :: a226 :: a227 :: a228 :: a229 :: a230 :: a231 :: a232 :: a233 :: a234 :: a235 :: a236 :: a237 :: a238 :: a239 :: a240 :: a241 :: a242 :: a243 :: a244 :: a245 :: a246 :: a247 :: a248 :: a249 :: a250 :: a251 :: a252 :: a253 :: a254 :: a255 :: a256 :: a257 :: a258 :: a259 :: a260 :: a261 :: a262 :: a263 :: a264 :: a265 :: a266 :: a267 :: [])), defers := [] } wr)
    (cd : Code) (hcd : blkC 2 (Try.f26.body.getD .skip) = some cd) :
    cd.wp Try.prog (Exit.then K Q) { tmps := (List.toArray ((.pointer (some ⟨P, 0, none⟩) : Value) :: a1 :: a2 :: (.pointer (some ⟨X, 0, none⟩) : Value) :: (.pointer (some ⟨X + 1, 0, none⟩) : Value) :: (.pointer (some ⟨X + 1 + 1, 0, none⟩) : Value) :: (.slice (some ⟨X + 1 + 1 + 1, 0, none⟩) 2 2 : Value) :: (.slice (some ⟨X + 1 + 1 + 1 + 1, 0, none⟩) 2 2 : Value) :: (.int .i64 U0.limits : Value) :: (.int .i64 pfl : Value) :: a10 :: a11 :: a12 :: (.int .i64 U0.ops.length : Value) :: (.int .i64 (-1) : Value) :: (.int .i64 0 : Value) :: a16 :: a17 :: a18 :: a19 :: a20 :: a21 :: a22 :: a23 :: a24 :: a25 :: a26 :: a27 :: a28 :: a29 :: a30 :: a31 :: a32 :: a33 :: a34 :: a35 :: a36 :: a37 :: a38 :: a39 :: a40 :: a41 :: a42 :: a43 :: a44 :: a45 :: a46 :: a47 :: a48 :: a49 :: a50 :: a51 :: a52 :: a53 :: a54 :: a55 :: a56 :: a57 :: a58 :: a59 :: a60 :: a61 :: a62 :: a63 :: a64 :: a65 :: a66 :: a67 :: a68 :: a69 :: a70 :: a71 :: a72 :: a73 :: a74 :: a75 :: a76 :: a77 :: a78 :: a79 :: a80 :: a81 :: a82 :: a83 :: a84 :: a85 :: a86 :: a87 :: a88 :: a89 :: a90 :: a91 :: a92 :: a93 :: a94 :: a95 :: a96 :: a97 :: a98 :: a99 :: a100 :: a101 :: a102 :: a103 :: a104 :: a105 :: a106 :: a107 :: a108 :: a109 :: a110 :: a111 :: a112 :: a113 :: a114 :: a115 :: a116 :: a117 :: a118 :: a119 :: a120 :: a121 :: a122 :: a123 :: a124 :: a125 :: a126 :: a127 :: a128 :: a129 :: a130 :: a131 :: a132 :: a133 :: a134 :: a135 :: a136 :: a137 :: a138 :: a139 :: a140 :: a141 :: a142 :: a143 :: a144 :: a145 :: a146 :: a147 :: a148 :: a149 :: a150 :: a151 :: a152 :: a153 :: a154 :: a155 :: a156 :: a157 :: a158 :: a159 :: a160 :: a161 :: a162 :: a163 :: a164 :: a165 :: a166 :: a167 :: a168 :: a169 :: a170 :: a171 :: a172 :: a173 :: a174 :: a175 :: a176 :: a177 :: a178 :: a179 :: a180 :: a181 :: a182 :: a183 :: a184 :: a185 :: a186 :: a187 :: a188 :: a189 :: a190 :: a191 :: a192 :: a193 :: a194 :: a195 :: a196 :: a197 :: a198 :: a199 :: a200 :: a201 :: a202 :: a203 :: a204 :: a205 :: a206 :: a207 :: a208 :: a209 :: a210 :: a211 :: a212 :: a213 :: a214 :: a215 :: a216 :: a217 :: a218 :: a219 :: a220 :: a221 :: a222 :: a223 :: a224 :: a225 :: a226 :: a227 :: a228 :: a229 :: a230 :: a231 :: a232 :: a233 :: a234 :: a235 :: a236 :: a237 :: a238 :: a239 :: a240 :: a241 :: a242 :: a243 :: a244 :: a245 :: a246 :: a247 :: a248 :: a249 :: a250 :: a251 :: a252 :: a253 :: a254 :: a255 :: a256 :: a257 :: a258 :: a259 :: a260 :: a261 :: a262 :: a263 :: a264 :: a265 :: a266 :: a267 :: [])), defers := [] } wc := by
  obtain ⟨iO, hiO, hzO, hzO1, hzO2⟩ := info_parts infoMO
  have HPOST : Hid (∀ (j : Nat) (vals : List Int) (reused : Int) (x : Wk) (κr : Nat → Nat) (vo : Value) (wr : World), (j : Int) ≤ 1 + pfl / 2 ^ 8 % 2 → ¬ (j : Int) < 1 + pfl / 2 ^ 8 % 2 → Hid (MIn N κ w X P { s with f := ⟨vals, s.f.blocks⟩ } p pop κr wr x [] vo (.slice none 0 0)) → Hid (DfS s p pfl U0 j vals reused x) → ∀ (b16 b17 b18 b19 b105 b106 b107 b108 b109 b110 b111 b112 b113 b114 b115 b116 b117 b118 b119 b120 b121 b122 b123 b124 b125 b126 b127 b128 b129 b130 b131 b132 b133 b134 b135 b136 b137 b138 b139 b140 b141 b142 b143 b144 b145 b146 b147 b148 b149 b150 b151 b152 b153 b154 b155 b156 b157 b158 b159 b160 b161 b162 b163 b164 b165 b166 b167 b168 b169 b170 b171 b172 b173 b174 b175 b176 b177 b178 b179 b180 b181 b182 b183 b184 b185 b186 b187 b188 b189 b190 b191 b192 b193 b194 b195 b196 b197 b198 b199 b200 b201 b202 b203 b204 b205 b206 b207 b208 b209 b210 b211 b212 b213 b214 b215 b216 b217 b218 b219 b220 : Value), K { tmps := (List.toArray ((.pointer (some ⟨P, 0, none⟩) : Value) :: a1 :: a2 :: (.pointer (some ⟨X, 0, none⟩) : Value) :: (.pointer (some ⟨X + 1, 0, none⟩) : Value) :: (.pointer (some ⟨X + 1 + 1, 0, none⟩) : Value) :: (.slice (some ⟨X + 1 + 1 + 1, 0, none⟩) 2 2 : Value) :: (.slice (some ⟨X + 1 + 1 + 1 + 1, 0, none⟩) 2 2 : Value) :: (.int .i64 x.limits : Value) :: (.int .i64 pfl : Value) :: a10 :: a11 :: a12 :: (.int .i64 U0.ops.length : Value) :: (.int .i64 reused : Value) :: (.int .i64 j : Value) :: b16 :: b17 :: b18 :: b19 :: a20 :: a21 :: a22 :: a23 :: a24 :: a25 :: a26 :: a27 :: a28 :: a29 :: a30 :: a31 :: a32 :: a33 :: a34 :: a35 :: a36 :: a37 :: a38 :: a39 :: a40 :: a41 :: a42 :: a43 :: a44 :: a45 :: a46 :: a47 :: a48 :: a49 :: a50 :: a51 :: a52 :: a53 :: a54 :: a55 :: a56 :: a57 :: a58 :: a59 :: a60 :: a61 :: a62 :: a63 :: a64 :: a65 :: a66 :: a67 :: a68 :: a69 :: a70 :: a71 :: a72 :: a73 :: a74 :: a75 :: a76 :: a77 :: a78 :: a79 :: a80 :: a81 :: a82 :: a83 :: a84 :: a85 :: a86 :: a87 :: a88 :: a89 :: a90 :: a91 :: a92 :: a93 :: a94 :: a95 :: a96 :: a97 :: a98 :: a99 :: a100 :: a101 :: a102 :: a103 :: a104 :: b105 :: b106 :: b107 :: b108 :: b109 :: b110 :: b111 :: b112 :: b113 :: b114 :: b115 :: b116 :: b117 :: b118 :: b119 :: b120 :: b121 :: b122 :: b123 :: b124 :: b125 :: b126 :: b127 :: b128 :: b129 :: b130 :: b131 :: b132 :: b133 :: b134 :: b135 :: b136 :: b137 :: b138 :: b139 :: b140 :: b141 :: b142 :: b143 :: b144 :: b145 :: b146 :: b147 :: b148 :: b149 :: b150 :: b151 :: b152 :: b153 :: b154 :: b155 :: b156 :: b157 :: b158 :: b159 :: b160 :: b161 :: b162 :: b163 :: b164 :: b165 :: b166 :: b167 :: b168 :: b169 :: b170 :: b171 :: b172 :: b173 :: b174 :: b175 :: b176 :: b177 :: b178 :: b179 :: b180 :: b181 :: b182 :: b183 :: b184 :: b185 :: b186 :: b187 :: b188 :: b189 :: b190 :: b191 :: b192 :: b193 :: b194 :: b195 :: b196 :: b197 :: b198 :: b199 :: b200 :: b201 :: b202 :: b203 :: b204 :: b205 :: b206 :: b207 :: b208 :: b209 :: b210 :: b211 :: b212 :: b213 :: b214 :: b215 :: b216 :: b217 :: b218 :: b219 :: b220 :: a221 :: a222 :: a223 :: a224 :: a225 :: a226 :: a227 :: a228 :: a229 :: a230 :: a231 :: a232 :: a233 :: a234 :: a235 :: a236 :: a237 :: a238 :: a239 :: a240 :: a241 :: a242 :: a243 :: a244 :: a245 :: a246 :: a247 :: a248 :: a249 :: a250 :: a251 :: a252 :: a253 :: a254 :: a255 :: a256 :: a257 :: a258 :: a259 :: a260 :: a261 :: a262 :: a263 :: a264 :: a265 :: a266 :: a267 :: [])), defers := [] } wr) := hpost
  clear hpost
  obtain rfl := Option.some.inj (hcd.symm.trans (rfl : blkC 2 (Try.f26.body.getD .skip) = some _))
  clear hcd
  go_wp2_with fail
  go_loopw [8, 14, 15] (fun l re i wr => ∃ (j : Nat) (vals : List Int) (reused : Int) (x : Wk) (κr : Nat → Nat) (vo : Value), (j : Int) ≤ 1 + pfl / 2 ^ 8 % 2 ∧ l = .int .i64 x.limits ∧ re = .int .i64 reused ∧ i = .int .i64 j ∧ Hid (MIn N κ w X P { s with f := ⟨vals, s.f.blocks⟩ } p pop κr wr x [] vo (.slice none 0 0)) ∧ Hid (DfS s p pfl U0 j vals reused x)) (fun _ _ i _ => 2 - (intOf i).toNat)
  case atStart => exact ⟨0, _, _, _, _, _, by omega, rfl, rfl, rfl, HI1, HD0⟩
  case round =>
    clear HI1 HD0
    obtain ⟨j, vals, reused, x, κr, vo, hj, rfl, rfl, rfl, HI1, HD⟩ := hrel
    have XB : wr.cell? ⟨X, 3, none⟩ = some (.int .i64 p.b) := HI1.out.rp.cell (i := 3) (by omega)
    have XC : wr.cell? ⟨X, 4, none⟩ = some (.int .i64 p.c) := HI1.out.rp.cell (i := 4) (by omega)
    by_cases hg : (j : Int) < 1 + pfl / 2 ^ 8 % 2
    · go_upto_region 21 with fail
      obtain ⟨lt, hlt⟩ : ∃ lt, ((pfl / 2 ^ (9 + j)).tmod 2 == 1) = lt := ⟨_, rfl⟩
      have hlt2 : decide (pfl / 2 ^ (9 + j) % 2 = 1) = lt := by rw [← hlt, Int.tmod_eq_emod_of_nonneg (Int.ediv_nonneg pf0 (Int.pow_nonneg (by decide)))]; rfl
      obtain ⟨c, hc⟩ : ∃ c, p.c / 2 ^ j % 2 = c := ⟨_, rfl⟩
      have hcb := bit_bd p.c j
      rw [hlt, and_one, hc]
      rw [hc] at hcb
      have HC : Hid (c = 0 ∨ c = 1) := hcb
      have gc0 : 0 ≤ c := by omega
      have gc1 : c < 2 := by omega
      obtain ⟨k, hk'⟩ : ∃ k, pickedOf p.b ((U0.ops.length : Int) + 1) = k := ⟨_, rfl⟩
      have hkb := pickedOf_bd p.b ((U0.ops.length : Int) + 1) (by omega)
      rw [hk'] at hkb
      obtain ⟨hk0, hk1⟩ := hkb
      have HPB : Hid (pickedOf p.b ((U0.ops.length : Int) + 1) = k) := hk'
      have HDE : Hid (∀ vals' re' x', defM s.m0 s.m1 p pfl U0.ops.length j vals reused x = (vals', re', x') → DfS s p pfl U0 (j + 1) vals' re' x') := fun vals' re' x' he => by
        have := HD.out.step
        rw [he] at this
        exact this
      have HDF : Hid (defM s.m0 s.m1 p pfl U0.ops.length j vals reused x = if 1 + x.limits % 5 = 5 ∧ k < U0.ops.length ∧ k ≠ reused ∧ (x.ops.getD k.toNat ⟨0, 0, false, 0, 0⟩).late = false ∧ get2 x.need c + 1 < regsOf s.m0 s.m1 c ∧ classAt vals (x.ops.getD k.toNat ⟨0, 0, false, 0, 0⟩).value = c then (vals ++ [c], k, ⟨x.ops ++ [⟨2, vals.length, true, 5, k⟩], inc2 x.need c, x.fixed, x.limits / 5⟩) else (vals ++ [c], reused, ⟨x.ops ++ [⟨2, vals.length, lt, (limitM s.m0 s.m1 (if 1 + x.limits % 5 = 5 then 1 else 1 + x.limits % 5) c x.need x.fixed).1, (limitM s.m0 s.m1 (if 1 + x.limits % 5 = 5 then 1 else 1 + x.limits % 5) c x.need x.fixed).2.1⟩], (limitM s.m0 s.m1 (if 1 + x.limits % 5 = 5 then 1 else 1 + x.limits % 5) c x.need x.fixed).2.2.1, (limitM s.m0 s.m1 (if 1 + x.limits % 5 = 5 then 1 else 1 + x.limits % 5) c x.need x.fixed).2.2.2, x.limits / 5⟩)) := by
        show _ = _
        rw [← hc, ← hk', ← hlt2]
        rfl
      clear hlt hlt2 hc hcb hk'
      have xl0 := HD.out.l0
      have xl1 := HD.out.l1
      have hj1 : j ≤ 1 := by omega
      have hvl : vals.length ≤ 10001 := by have := HD.out.vl; omega
      have hol1 : U0.ops.length ≤ x.ops.length := by have := HD.out.len; omega
      have hol2 : x.ops.length ≤ 4 := by have := HD.out.len; omega
      obtain ⟨B, hB⟩ : ∃ B, wr.heap.size = B := ⟨_, rfl⟩
      obtain ⟨wo, hwo⟩ : ∃ wo, wo = wr.alloc (.cells #[.int .i64 2, .int .i64 0, .bool lt, .int .i64 0, .int .i64 0] 46) := ⟨_, rfl⟩
      have hbo : Below wr.heap.size wr wo := by rw [hwo]; exact (Below.refl _ _).alloc (Nat.le_refl _) _
      have hBl : B < wo.heap.size := by rw [hwo, ← hB]; simp
      have ro : wo.rowIs B 46 5 (oprRow 2 0 lt 0 0) := by
        rw [hwo, ← hB]
        exact World.rowIs_alloc wr #[.int .i64 2, .int .i64 0, .bool lt, .int .i64 0, .int .i64 0] 46 (oprRow 2 0 lt 0 0) fun i hi => by
          simp at hi
          match i, hi with | 0, _ => rfl | 1, _ => rfl | 2, _ => rfl | 3, _ => rfl | 4, _ => rfl
      rw [← hwo, hB]
      clear hwo
      have hXl := HI1.out.lt
      have hXB : X + 4 < B := by omega
      have hvoB : vo.ownBlock ≠ some B := fun e => by have := (own_base HI1.out.oo e).2; omega
      have hI2 := HI1.out.fresh5 hbo hB hBl
      have hkB : upK κr B 5 B = 5 := by simp [upK]
      have HI2 : Hid (MIn N κ w X P { s with f := ⟨vals, s.f.blocks⟩ } p pop (upK κr B 5) wo x [] vo (.slice none 0 0)) := hI2
      generalize upK κr B 5 = κ5 at *
      have RB : wo.cell? ⟨X, 3, none⟩ = some (.int .i64 p.b) := hI2.rp.cell (i := 3) (by omega)
      clear hbo hB HI1 XB XC hI2
      go_upto_if 131 with fail
      go_cut [14, 18, 19] from 105 to 220 (fun re wi kk wz => MidR N κ w X P { s with f := ⟨vals, s.f.blocks⟩ } p pop κ5 x vo B lt c k reused (if 1 + x.limits % 5 = 5 then 1 else 1 + x.limits % 5) (1 + x.limits % 5 = 5 ∧ k < U0.ops.length ∧ k ≠ reused ∧ (x.ops.getD k.toNat ⟨0, 0, false, 0, 0⟩).late = false ∧ get2 x.need c + 1 < regsOf s.m0 s.m1 c ∧ classAt vals (x.ops.getD k.toNat ⟨0, 0, false, 0, 0⟩).value = c) re wi wz)
      case first =>
        by_cases h5 : 1 + x.limits % 5 = 5
        · go_upto_region 26 with (go_at_call 12; with_reducible refine (picked_is _ _ _ _ HPB.out (by omega) (by omega) (by omega) (by omega)).mono ?_; rintro e wo ⟨rfl, rfl⟩)
          obtain ⟨ok, hok⟩ : ∃ ok, decide (k < U0.ops.length ∧ k ≠ reused ∧ (x.ops.getD k.toNat ⟨0, 0, false, 0, 0⟩).late = false ∧ get2 x.need c + 1 < regsOf s.m0 s.m1 c ∧ classAt vals (x.ops.getD k.toNat ⟨0, 0, false, 0, 0⟩).value = c) = ok := ⟨_, rfl⟩
          have HOK : Hid (decide (k < U0.ops.length ∧ k ≠ reused ∧ (x.ops.getD k.toNat ⟨0, 0, false, 0, 0⟩).late = false ∧ get2 x.need c + 1 < regsOf s.m0 s.m1 c ∧ classAt vals (x.ops.getD k.toNat ⟨0, 0, false, 0, 0⟩).value = c) = ok) := hok
          have H5 : Hid (1 + x.limits % 5 = 5) := h5
          clear hok h5
          go_cut [185] from 105 to 220 (fun v wz => v = .bool ok ∧ ∃ n, wz = wo.drewN n)
          case first =>
            have hok := HOK.out
            by_cases q1 : k < U0.ops.length
            · obtain ⟨vv, vb, vk, al, bx, hMS⟩ := HI2.out.ma
              have hkl : k.toNat < x.ops.length := by omega
              have eo : x.ops.getD k.toNat ⟨0, 0, false, 0, 0⟩ = x.ops[k.toNat] := by rw [List.getD_eq_getElem?_getD, List.getElem?_eq_getElem hkl]; rfl
              have hval := HD.out.val _ (List.getElem_mem hkl)
              rw [eo] at hok
              obtain ⟨go, co, rfl, _, lgo⟩ := HI2.out.oo.form (by omega)
              have O1 : wo.cell? ⟨go, k.toNat * 5 + 1, none⟩ = some (.int .i64 x.ops[k.toNat].value) := (own_cell HI2.out.oo _ _ ((flat_at cO 5 (fun _ => rfl) x.ops k.toNat 1 hkl (by omega)).trans rfl)).1
              have O2 : wo.cell? ⟨go, k.toNat * 5 + 2, none⟩ = some (.bool x.ops[k.toNat].late) := (own_cell HI2.out.oo _ _ ((flat_at cO 5 (fun _ => rfl) x.ops k.toNat 2 hkl (by omega)).trans rfl)).1
              have X1 : wo.cell? ⟨X + 1 + 1, 1, none⟩ = some (.slice (some ⟨go, 0, none⟩) x.ops.length co) := HI2.out.rx.cell (i := 1) (by omega)
              simp only [isValueB, decide_eq_true_eq] at hval
              obtain ⟨ov0, ov1⟩ := hval
              obtain ⟨gv, cv, rfl, lgv, V0⟩ := own_int hMS.ov rfl x.ops[k.toNat].value.toNat (by show _ < vals.length; omega)
              have P2 := hMS.cells.2.2.1
              have eV : vals.getD x.ops[k.toNat].value.toNat 0 = classAt vals x.ops[k.toNat].value := rfl
              simp only at V0 P2
              rw [eV] at V0
              clear eV eo
              have hn1 : wo.cell? ⟨X + 1 + 1 + 1, c.toNat, none⟩ = some (.int .i64 (get2 x.need c)) := by
                have := HI2.out.nf.rn.cell (i := c.toNat) (by omega)
                rw [this, Int.toNat_of_nonneg gc0]
              have pr : wo.cell? ⟨P, c.toNat, none⟩ = some (.int .i64 (regsOf s.m0 s.m1 c)) := by
                rcases HC.out with e | e
                · rw [e]; exact hMS.cells.1
                · rw [e]; exact hMS.cells.2.1
              have hnb := HD.out.bd c HC.out
              obtain ⟨nb0, nb1, _⟩ := hnb
              have hrg : regsOf s.m0 s.m1 c ≤ 10 := by
                have := HM.out.m0.2
                have := HM.out.m1.2
                unfold regsOf
                split <;> omega
              generalize x.ops[k.toNat].value = ov at *
              generalize x.ops[k.toNat].late = ol at *
              generalize get2 x.need c = nd at *
              generalize regsOf s.m0 s.m1 c = rg at *
              generalize classAt vals ov = cl at *
              clear hMS
              by_cases q2 : k = reused
              · have e2 : (k != reused) = false := by simp [q2]
                have eok : ok = false := by rw [← hok]; simp [q2]
                subst eok
                clear hok q2
                go_quiet (fail)
                go_wp2_with fail
                go_meet
                exact ⟨rfl, _, rfl⟩
              · have e2 : (k != reused) = true := by simp [q2]
                cases ol
                · by_cases q4 : nd + 1 < rg
                  · have e4 : decide (nd + 1 < rg) = true := by simp [q4]
                    by_cases q5 : cl = c
                    · have e5 : (cl == c) = true := by simp [q5]
                      have eok : ok = true := by rw [← hok]; simp [q1, q2, q4, q5]
                      subst eok
                      clear hok q2 q4 q5
                      go_quiet (fail)
                      go_wp2_with fail
                      go_meet
                      exact ⟨rfl, _, rfl⟩
                    · have e5 : (cl == c) = false := by simp [q5]
                      have eok : ok = false := by rw [← hok]; simp [q5]
                      subst eok
                      clear hok q2 q4 q5
                      go_quiet (fail)
                      go_wp2_with fail
                      go_meet
                      exact ⟨rfl, _, rfl⟩
                  · have e4 : decide (nd + 1 < rg) = false := by simp [q4]
                    have eok : ok = false := by rw [← hok]; simp [q4]
                    subst eok
                    clear hok q2 q4
                    go_quiet (fail)
                    go_wp2_with fail
                    go_meet
                    exact ⟨rfl, _, rfl⟩
                · have eok : ok = false := by rw [← hok]; simp
                  subst eok
                  clear hok q2
                  go_quiet (fail)
                  go_wp2_with fail
                  go_meet
                  exact ⟨rfl, _, rfl⟩
            · have e1 : decide (k < (U0.ops.length : Int)) = false := by simp; omega
              have eok : ok = false := by rw [← hok]; simp [q1]
              subst eok
              clear hok q1
              go_quiet (fail)
              go_wp2_with fail
              go_meet
              exact ⟨rfl, _, rfl⟩
          case rest =>
            obtain ⟨rfl, nd1, hwc⟩ := hcut
            have hIc : MIn N κ w X P { s with f := ⟨vals, s.f.blocks⟩ } p pop κ5 wc x [] vo (.slice none 0 0) := by rw [hwc]; exact HI2.out.below (below_drewN (Below.refl _ _) _)
            have roc : wc.rowIs B 46 5 (oprRow 2 0 lt 0 0) := by rw [hwc]; exact ro
            clear hwc HI2 ro RB hBl
            cases ok
            · have HQ : Hid (MidR N κ w X P { s with f := ⟨vals, s.f.blocks⟩ } p pop κ5 x vo B lt c k reused (if 1 + x.limits % 5 = 5 then 1 else 1 + x.limits % 5) (1 + x.limits % 5 = 5 ∧ k < U0.ops.length ∧ k ≠ reused ∧ (x.ops.getD k.toNat ⟨0, 0, false, 0, 0⟩).late = false ∧ get2 x.need c + 1 < regsOf s.m0 s.m1 c ∧ classAt vals (x.ops.getD k.toNat ⟨0, 0, false, 0, 0⟩).value = c) (.int .i64 reused) (.int .i64 1) wc) := Or.inr ⟨fun hh => (by have := HOK.out; rw [decide_eq_true hh.2] at this; cases this), rfl, by rw [if_pos H5.out], hIc, roc⟩
              clear hIc roc HOK H5
              go_wp2_with fail
              go_meet
              exact HQ.out
            · have n1 : wc.cell? ⟨X + 1 + 1 + 1, c.toNat, none⟩ = some (.int .i64 (get2 x.need c)) := by
                have := hIc.nf.rn.cell (i := c.toNat) (by omega)
                rw [this, Int.toNat_of_nonneg gc0]
              have nz := hIc.nf.rn.frozen c.toNat
              have hnN := hIc.nf.need c.toNat (by omega)
              rw [Int.toNat_of_nonneg gc0] at hnN
              have nb := HD.out.bd c HC.out
              obtain ⟨nb0, nb1, _⟩ := nb
              have hI3 : MIn N κ w X P { s with f := ⟨vals, s.f.blocks⟩ } p pop κ5 ((((wc.setCell ⟨X + 1 + 1 + 1, c.toNat, none⟩ (.int .i64 (get2 x.need c + 1))).setCell ⟨B, 2, none⟩ (.bool true)).setCell ⟨B, 3, none⟩ (.int .i64 5)).setCell ⟨B, 4, none⟩ (.int .i64 k)) ⟨x.ops, inc2 x.need c, x.fixed, x.limits / 5⟩ [] vo (.slice none 0 0) :=
                (((hIc.off (Off.two (Below.refl _ _) ((Two.refl _ _ _).set (X + 1 + 1 + 1) c.toNat _ (Or.inl rfl))) hnN).setB hkB hXB hvoB (by simp [Value.ownBlock])).setB hkB hXB hvoB (by simp [Value.ownBlock])).setB hkB hXB hvoB (by simp [Value.ownBlock])
              have roN : (wc.setCell ⟨X + 1 + 1 + 1, c.toNat, none⟩ (.int .i64 (get2 x.need c + 1))).rowIs B 46 5 (oprRow 2 0 lt 0 0) := roc.setOther (by simp; omega) _
              have ro3 : ((((wc.setCell ⟨X + 1 + 1 + 1, c.toNat, none⟩ (.int .i64 (get2 x.need c + 1))).setCell ⟨B, 2, none⟩ (.bool true)).setCell ⟨B, 3, none⟩ (.int .i64 5)).setCell ⟨B, 4, none⟩ (.int .i64 k)).rowIs B 46 5 (oprRow 2 0 true 5 k) := (((roN.set 2 _).set 3 _).set 4 _).congr fun q hq => by match q, hq with | 0, _ => rfl | 1, _ => rfl | 2, _ => rfl | 3, _ => rfl | 4, _ => rfl
              have HQ : Hid (MidR N κ w X P { s with f := ⟨vals, s.f.blocks⟩ } p pop κ5 x vo B lt c k reused (if 1 + x.limits % 5 = 5 then 1 else 1 + x.limits % 5) (1 + x.limits % 5 = 5 ∧ k < U0.ops.length ∧ k ≠ reused ∧ (x.ops.getD k.toNat ⟨0, 0, false, 0, 0⟩).late = false ∧ get2 x.need c + 1 < regsOf s.m0 s.m1 c ∧ classAt vals (x.ops.getD k.toNat ⟨0, 0, false, 0, 0⟩).value = c) (.int .i64 k) (.int .i64 1) ((((wc.setCell ⟨X + 1 + 1 + 1, c.toNat, none⟩ (.int .i64 (get2 x.need c + 1))).setCell ⟨B, 2, none⟩ (.bool true)).setCell ⟨B, 3, none⟩ (.int .i64 5)).setCell ⟨B, 4, none⟩ (.int .i64 k))) := Or.inl ⟨⟨H5.out, of_decide_eq_true HOK.out⟩, rfl, hI3, ro3⟩
              obtain ⟨y0, y1, y2, y3, y4⟩ : wc.cell? ⟨B, 0, none⟩ = some (.int .i64 2) ∧ wc.cell? ⟨B, 1, none⟩ = some (.int .i64 0) ∧ wc.cell? ⟨B, 2, none⟩ = some (.bool lt) ∧ wc.cell? ⟨B, 3, none⟩ = some (.int .i64 0) ∧ wc.cell? ⟨B, 4, none⟩ = some (.int .i64 0) := ⟨roc.cell (i := 0) (by omega), roc.cell (i := 1) (by omega), roc.cell (i := 2) (by omega), roc.cell (i := 3) (by omega), roc.cell (i := 4) (by omega)⟩
              have y5 := roc.frozen 2
              have y6 := roc.frozen 3
              have y7 := roc.frozen 4
              have nBX : B ≠ X + 1 + 1 + 1 := by omega
              clear hnN roN hIc roc HOK hI3 ro3 H5
              obtain ⟨gnd, hgnd⟩ : ∃ gnd, get2 x.need c = gnd := ⟨_, rfl⟩
              rw [hgnd] at n1 nb0 nb1
              have HGN : Hid (get2 x.need c = gnd) := hgnd
              clear hgnd
              go_wp2_with fail
              go_meet
              rw [← HGN.out]
              exact HQ.out
        · have HQ : Hid (MidR N κ w X P { s with f := ⟨vals, s.f.blocks⟩ } p pop κ5 x vo B lt c k reused (if 1 + x.limits % 5 = 5 then 1 else 1 + x.limits % 5) (1 + x.limits % 5 = 5 ∧ k < U0.ops.length ∧ k ≠ reused ∧ (x.ops.getD k.toNat ⟨0, 0, false, 0, 0⟩).late = false ∧ get2 x.need c + 1 < regsOf s.m0 s.m1 c ∧ classAt vals (x.ops.getD k.toNat ⟨0, 0, false, 0, 0⟩).value = c) (.int .i64 reused) (.int .i64 (1 + x.limits % 5)) wo) := Or.inr ⟨fun hh => h5 hh.1, rfl, by rw [if_neg h5], HI2.out, ro⟩
          clear ro HI2
          go_wp2_with fail
          go_meet
          exact HQ.out
      case rest =>
        have HCUT : Hid (MidR N κ w X P { s with f := ⟨vals, s.f.blocks⟩ } p pop κ5 x vo B lt c k reused (if 1 + x.limits % 5 = 5 then 1 else 1 + x.limits % 5) (1 + x.limits % 5 = 5 ∧ k < U0.ops.length ∧ k ≠ reused ∧ (x.ops.getD k.toNat ⟨0, 0, false, 0, 0⟩).late = false ∧ get2 x.need c + 1 < regsOf s.m0 s.m1 c ∧ classAt vals (x.ops.getD k.toNat ⟨0, 0, false, 0, 0⟩).value = c) u14 u18 wc) := hcut
        obtain ⟨reI, l0, wI, hre, hwi, hl0, hl1⟩ : ∃ (reI l0 wI : Int), u14 = .int .i64 reI ∧ (u18 = .int .i64 wI ∨ l0 = 5) ∧ wc.cell? ⟨B, 3, none⟩ = some (.int .i64 l0) ∧ B < wc.heap.size := by
          rcases hcut with ⟨_, h1, h2, h3⟩ | ⟨_, h1, h2, h3, h4⟩
          · exact ⟨k, 5, 0, h1, Or.inr rfl, h3.cell (i := 3) (by omega), h3.lt⟩
          · exact ⟨reused, 0, _, h1, Or.inl h2, h4.cell (i := 3) (by omega), h4.lt⟩
        clear hcut HI2 ro RB hBl
        subst hre
        obtain ⟨bq, hbq⟩ : ∃ bq, (l0 == 0) = bq := ⟨_, rfl⟩
        have HBQ : Hid ((l0 == 0) = bq) := hbq
        have HL0 : Hid (wc.cell? ⟨B, 3, none⟩ = some (.int .i64 l0)) := hl0
        have HWI : Hid (u18 = .int .i64 wI ∨ l0 = 5) := hwi
        clear hwi
        go_upto_if 199 with fail
        clear hl0 hbq
        go_cut [200] from 105 to 220 (fun _ wz => EndR N κ w X P s vals p pop κ5 x vo B c pfl U0 j reI wz)
        case first =>
          rcases HCUT.out with ⟨hcd, h1, h2, h3⟩ | ⟨hcd, h1, h2, h3, h4⟩
          · have ebq : bq = false := by
              have e5 := h3.cell (i := 3) (by omega)
              rw [HL0.out] at e5
              have : l0 = 5 := by simpa [oprRow] using e5
              rw [← HBQ.out, this]
              rfl
            subst ebq
            simp only [Value.int.injEq, true_and] at h1
            have hE : defM s.m0 s.m1 p pfl U0.ops.length j vals reused x = (vals ++ [c], k, ⟨x.ops ++ [⟨2, vals.length, true, 5, k⟩], inc2 x.need c, x.fixed, x.limits / 5⟩) := by
              rw [HDF.out, if_pos hcd]
            have HQ : Hid (EndR N κ w X P s vals p pop κ5 x vo B c pfl U0 j reI wc) := ⟨_, _, _, _, _, by rw [h1]; exact HDE.out _ _ _ hE, h2, h3⟩
            clear h1 h2 h3 hE hcd HCUT HBQ HL0 HWI
            go_wp2_with fail
            go_meet
            exact HQ.out
          · have e5 := h4.cell (i := 3) (by omega)
            rw [HL0.out] at e5
            have e0 : l0 = 0 := by simpa [oprRow] using e5
            have ebq : bq = true := by
              rw [← HBQ.out, e0]
              rfl
            subst ebq
            simp only [Value.int.injEq, true_and] at h1
            have hE : defM s.m0 s.m1 p pfl U0.ops.length j vals reused x = (vals ++ [c], reused, ⟨x.ops ++ [⟨2, vals.length, lt, (limitM s.m0 s.m1 (if 1 + x.limits % 5 = 5 then 1 else 1 + x.limits % 5) c x.need x.fixed).1, (limitM s.m0 s.m1 (if 1 + x.limits % 5 = 5 then 1 else 1 + x.limits % 5) c x.need x.fixed).2.1⟩], (limitM s.m0 s.m1 (if 1 + x.limits % 5 = 5 then 1 else 1 + x.limits % 5) c x.need x.fixed).2.2.1, (limitM s.m0 s.m1 (if 1 + x.limits % 5 = 5 then 1 else 1 + x.limits % 5) c x.need x.fixed).2.2.2, x.limits / 5⟩) := by
              rw [HDF.out, if_neg hcd]
            have HDN := HDE.out _ _ _ hE
            rw [← h1] at HDN
            have hWI : wI = (if 1 + x.limits % 5 = 5 then 1 else 1 + x.limits % 5) := by
              rcases HWI.out with e | e
              · rw [h2] at e; simpa using e.symm
              · omega
            have hwb : 1 ≤ (if 1 + x.limits % 5 = 5 then 1 else 1 + x.limits % 5) ∧ (if 1 + x.limits % 5 = 5 then 1 else 1 + x.limits % 5) ≤ 4 := by split <;> omega
            subst h2
            generalize (if 1 + x.limits % 5 = 5 then 1 else 1 + x.limits % 5) = wsh at *
            have hwb0 := hwb.1
            have hwb1 := hwb.2
            have R0 : wc.cell? ⟨P, 0, none⟩ = some (.int .i64 s.m0) := by obtain ⟨vv, vb, vk, al, bx, hMS⟩ := h3.ma; exact hMS.cells.1
            have R1 : wc.cell? ⟨P, 1, none⟩ = some (.int .i64 s.m1) := by obtain ⟨vv, vb, vk, al, bx, hMS⟩ := h3.ma; exact hMS.cells.2.1
            have hbd := HD.out.bd
            have hXd := h3.lt
            have HL := limit_any P (X + 1 + 1 + 1) (X + 1 + 1 + 1 + 1) s.m0 s.m1 wsh c x.need x.fixed wc hwb HC.out HM.out.m0.2 HM.out.m1.2 h3.nf (fun d hd => by have := hbd d hd; omega) R0 R1 (by omega) (by omega)
            generalize limitM s.m0 s.m1 wsh c x.need x.fixed = r4 at *
            have HDN' : Hid (DfS s p pfl U0 (j + 1) (vals ++ [c]) reI ⟨x.ops ++ [⟨2, vals.length, lt, r4.1, r4.2.1⟩], r4.2.2.1, r4.2.2.2, x.limits / 5⟩) := HDN
            have HId : Hid (MIn N κ w X P { s with f := ⟨vals, s.f.blocks⟩ } p pop κ5 wc x [] vo (.slice none 0 0)) := h3
            have HROD : Hid (wc.rowIs B 46 5 (oprRow 2 0 lt 0 0)) := h4
            clear hbd h1 h3 h4 hE hcd HCUT HBQ HL0 HWI hWI e5 e0 HDN hwb HDF HDE R0 R1
            go_wp2_with fail
            refine HL.mono ?_
            clear HL
            rintro e w2 ⟨rfl, hN2, hT2⟩
            have ro2 : w2.rowIs B 46 5 (oprRow 2 0 lt 0 0) := HROD.out.of_block (hT2.block B (by omega) (by omega))
            have ro3 : ((w2.setCell ⟨B, 3, none⟩ (.int .i64 r4.1)).setCell ⟨B, 4, none⟩ (.int .i64 r4.2.1)).rowIs B 46 5 (oprRow 2 0 lt r4.1 r4.2.1) := ((ro2.set 3 _).set 4 _).congr fun q hq => by match q, hq with | 0, _ => rfl | 1, _ => rfl | 2, _ => rfl | 3, _ => rfl | 4, _ => rfl
            have hI3 : MIn N κ w X P { s with f := ⟨vals, s.f.blocks⟩ } p pop κ5 ((w2.setCell ⟨B, 3, none⟩ (.int .i64 r4.1)).setCell ⟨B, 4, none⟩ (.int .i64 r4.2.1)) ⟨x.ops, r4.2.2.1, r4.2.2.2, x.limits / 5⟩ [] vo (.slice none 0 0) :=
              ((HId.out.off (Off.two (Below.refl _ _) hT2) hN2).setB hkB hXB hvoB (by simp [Value.ownBlock])).setB hkB hXB hvoB (by simp [Value.ownBlock])
            have HQ : Hid (EndR N κ w X P s vals p pop κ5 x vo B c pfl U0 j reI ((w2.setCell ⟨B, 3, none⟩ (.int .i64 r4.1)).setCell ⟨B, 4, none⟩ (.int .i64 r4.2.1))) := ⟨_, _, _, _, _, HDN'.out, hI3, ro3⟩
            have z3 := ro2.frozen 3
            have z4 := ro2.frozen 4
            have s0 : w2.cell? ⟨B, 3, none⟩ = some (.int .i64 0) := ro2.cell (i := 3) (by omega)
            have s1 : w2.cell? ⟨B, 4, none⟩ = some (.int .i64 0) := ro2.cell (i := 4) (by omega)
            clear hN2 hT2 ro2 ro3 hI3 HId HROD HDN'
            go_wp2_with fail
            go_meet
            exact HQ.out
        case rest =>
          obtain ⟨nd3, fx3, lt3, l3, n3, hDN, hI3, ro3⟩ := hcut
          have HDN : Hid (DfS s p pfl U0 (j + 1) (vals ++ [c]) reI ⟨x.ops ++ [⟨2, vals.length, lt3, l3, n3⟩], nd3, fx3, x.limits / 5⟩) := hDN
          obtain ⟨W3, hW3⟩ : ∃ W3, wc = W3 := ⟨_, rfl⟩
          rw [hW3] at hI3 ro3
          rw [hW3]
          clear hW3 hDN HCUT HBQ HL0 HWI HDF HDE
          have HI3 : Hid (MIn N κ w X P { s with f := ⟨vals, s.f.blocks⟩ } p pop κ5 W3 ⟨x.ops, nd3, fx3, x.limits / 5⟩ [] vo (.slice none 0 0)) := hI3
          have HRO3 : Hid (W3.rowIs B 46 5 (oprRow 2 0 lt3 l3 n3)) := ro3
          clear hI3 ro3
          have HV := value_any N κ5 W3 P { s with f := ⟨vals, s.f.blocks⟩ } c HI3.out.ma (by show vals.length ≤ 100000; omega)
          go_wp2_with fail
          refine HV.mono ?_
          clear HV
          rintro e w4 ⟨rfl, κ6, hM6, hO6⟩
          have hB3 := HRO3.out.lt
          have hI6 := HI3.out.after hM6 hO6
          have hk6 : κ6 B = 5 := by rw [hO6.role B hB3]; exact hkB
          have ro6 : w4.rowIs B 46 5 (oprRow 2 0 lt3 l3 n3) := HRO3.out.of_block (hO6.block B hB3 (by rw [hkB]; omega))
          obtain ⟨W7, hW7⟩ : ∃ W7, W7 = w4.setCell ⟨B, 1, none⟩ (.int .i64 (vals.length : Int)) := ⟨_, rfl⟩
          have hI7 := hI6.setB (B := B) (i := 1) (u := .int .i64 (vals.length : Int)) hk6 hXB hvoB (by simp [Value.ownBlock])
          have ro7 : W7.rowIs B 46 5 (oprRow 2 vals.length lt3 l3 n3) := by rw [hW7]; exact (ro6.set 1 _).congr fun q hq => by match q, hq with | 0, _ => rfl | 1, _ => rfl | 2, _ => rfl | 3, _ => rfl | 4, _ => rfl
          rw [← hW7] at hI7
          have HW7 : Hid (W7 = w4.setCell ⟨B, 1, none⟩ (.int .i64 (vals.length : Int))) := hW7
          have HI7 : Hid (MIn N κ w X P { s with f := ⟨vals ++ [c], s.f.blocks⟩ } p pop κ6 W7 ⟨x.ops, nd3, fx3, x.limits / 5⟩ [] vo (.slice none 0 0)) := hI7
          have z1 := ro6.frozen 1
          have s1 : w4.cell? ⟨B, 1, none⟩ = some (.int .i64 0) := ro6.cell (i := 1) (by omega)
          have T0 : W7.cell? ⟨B, 0, none⟩ = some (.int .i64 2) := ro7.cell (i := 0) (by omega)
          have T1 : W7.cell? ⟨B, 1, none⟩ = some (.int .i64 (vals.length : Int)) := ro7.cell (i := 1) (by omega)
          have T2 : W7.cell? ⟨B, 2, none⟩ = some (.bool lt3) := ro7.cell (i := 2) (by omega)
          have T3 : W7.cell? ⟨B, 3, none⟩ = some (.int .i64 l3) := ro7.cell (i := 3) (by omega)
          have T4 : W7.cell? ⟨B, 4, none⟩ = some (.int .i64 n3) := ro7.cell (i := 4) (by omega)
          have X1 : W7.cell? ⟨X + 1 + 1, 1, none⟩ = some vo := hI7.rx.cell (i := 1) (by omega)
          have Z1 := hI7.rx.frozen 1
          have oA := hI7.oo.alloc (.cells #[.int .i64 2, .int .i64 (vals.length : Int), .bool lt3, .int .i64 l3, .int .i64 n3] 46)
          have nX : some (X + 1 + 1) ≠ vo.ownBlock := fun e => by have := (hI7.ko _ e.symm).2; omega
          have hXl7 := hI7.lt
          have hNs := hI7.ma.szN
          clear ro6 ro7 hW7 hI7 hI6 hM6 hO6 HI3 HRO3
          go_upto_region 35 with fail
          rw [← HW7.out]
          clear z1 s1 HW7
          go_wp2_with (at_builtin; go_must (refine wpList_append_lies _ rfl _ _ 41 rfl N 46 iO _ 5 40 Try.underlying41 hiO hzO hzO1 hzO2 rfl (by omega) vo x.ops.length _ (by rfl) oA ⟨W7.heap.size, 0, none⟩ 1 1 [.int .i64 2, .int .i64 (vals.length : Int), .bool lt3, .int .i64 l3, .int .i64 n3] (by rfl) (by rfl) ?d1q1 ?d1q2 (by omega) ?d1q3 ?d1q4 ?d1q5 (W7.heap.size + 1) ?d1q6 ?_))
          rotate_left
          any_goals (first | (exact newsG rfl) | rfl | (show Value.oneCell' _ = true; simp [Value.oneCell']) | (intro u hu; simp at hu; rcases hu with rfl | rfl | rfl | rfl | rfl <;> rfl) | (unfold maxLen; omega) | omega | (simp; omega) | (simp; rfl) | (simp; done))
          intro g cap wb hown hgrow hat hgl
          have hP := HI7.out.pushO (o := ⟨2, vals.length, lt3, l3, n3⟩) ((Below.refl _ _).alloc (Nat.le_refl _) (.cells #[.int .i64 2, .int .i64 (vals.length : Int), .bool lt3, .int .i64 l3, .int .i64 n3] 46)) hgrow hown (by simpa using hat)
          have HP : Hid (MIn N κ w X P { s with f := ⟨vals ++ [c], s.f.blocks⟩ } p pop (upK κ6 g 5) (wb.setCell ⟨X + 1 + 1, 1, none⟩ (.slice (some ⟨g, 0, none⟩) (x.ops.length + 1) cap)) ⟨x.ops ++ [⟨2, vals.length, lt3, l3, n3⟩], nd3, fx3, x.limits / 5⟩ [] (.slice (some ⟨g, 0, none⟩) (x.ops.length + 1) cap) (.slice none 0 0)) := hP
          have LX := old_cell (X + 1 + 1)
          have lX' : X + 1 + 1 < (W7.alloc (.cells #[.int .i64 2, .int .i64 (vals.length : Int), .bool lt3, .int .i64 l3, .int .i64 n3] 46)).heap.size := by simp; omega
          have o1' := (hgrow.cell_far ⟨X + 1 + 1, 1, none⟩ lX' nX).trans ((LX _ _ _ (by omega)).trans X1)
          have oz' := (hgrow.frozen_far ⟨X + 1 + 1, 1, none⟩ lX' nX).trans ((frozen?_alloc_cells _ _ _ _).trans Z1)
          clear hP hown hgrow hat hgl oA LX X1 Z1 T0 T1 T2 T3 T4
          go_wp2
          go_roundw
          case rel => exact ⟨j + 1, _, _, _, _, _, by omega, rfl, rfl, by go_num, HP, HDN⟩
          case measure => simp [intOf]; omega
    · have HJ : Hid ((j : Int) ≤ 1 + pfl / 2 ^ 8 % 2 ∧ ¬ (j : Int) < 1 + pfl / 2 ^ 8 % 2) := ⟨hj, hg⟩
      go_wp2
      exact HPOST.out j vals reused x κr vo wr HJ.out.1 HJ.out.2 HI1 HD _ _ _ _ _ _ _ _ _ _ _ _ _ _ _ _ _ _ _ _ _ _ _ _ _ _ _ _ _ _ _ _ _ _ _ _ _ _ _ _ _ _ _ _ _ _ _ _ _ _ _ _ _ _ _ _ _ _ _ _ _ _ _ _ _ _ _ _ _ _ _ _ _ _ _ _ _ _ _ _ _ _ _ _ _ _ _ _ _ _ _ _ _ _ _ _ _ _ _ _ _ _ _ _ _ _ _ _ _ _ _ _ _ _ _ _ _ _ _ _
end Go.Proofs.Ytglfpnnfcpnmoaa
