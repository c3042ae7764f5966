/-
  Spans that are joined: the contract of 'joined'.
-/
import Derived.Test.YtglfpnnfcpnmoaaV12
import Derived.Test.YtglfpnnfcpnmoaaF2
import Derived.Test.YtglfpnnfcpnmoaaA5
import Derived.Laws.OwnMore
namespace Go.Proofs.Ytglfpnnfcpnmoaa
open Go.RowKit
set_option linter.unusedVariables false
def cS (x:Sp):List Value:=[.int .i64 x.1,.int .i64 x.2]
def joinL (l:List Sp) (x:Sp):List Sp :=
 match l.getLast? with
 | some y => if y.2 = x.1 then l.dropLast ++ [(y.1,x.2)] else l ++ [x]
 | none => [x]
theorem joinL_snoc (l:List Sp) (y x:Sp):joinL (l ++ [y]) x = if y.2 = x.1 then l ++ [(y.1,x.2)] else l ++ [y] ++ [x]:=by
 unfold joinL
 simp
theorem joinL_nil (x:Sp):joinL [] x = [x]:=rfl
theorem own_setS {w:World} {base e k n:Nat} {xs:List Value} {g cap:Nat} (h:w.ownsRow base e k (.slice (some ⟨g,0,none⟩) n cap) n xs) (i:Nat) (u:Value):(w.setCell ⟨g,i,none⟩ u).ownsRow base e k (.slice (some ⟨g,0,none⟩) n cap) n (xs.set i u)∧w.grownBy (w.setCell ⟨g,i,none⟩ u) (some g):=h.stored i u
theorem cS_len (l:List Sp):(l.flatMap cS).length = l.length * 2:=flat_length cS 2 (fun _ => rfl) l
theorem own_cellS {w:World} {base e n:Nat} {v:Value} {l:List Sp} {g cap:Nat} (h:w.ownsRow base e 2 v n (l.flatMap cS)) (hv:v = .slice (some ⟨g,0,none⟩) n cap) (i:Nat) (hi:i < l.length):w.cell? ⟨g,i * 2,none⟩ = some (.int .i64 l[i].1)∧w.cell? ⟨g,i * 2 + 1,none⟩ = some (.int .i64 l[i].2)∧w.frozen? ⟨g,i * 2 + 1,none⟩ = false:=by
 obtain ⟨hl,h⟩:=h
 rw [cS_len] at hl
 have hln:l.length = n:=by omega
 rcases h with ⟨h1,h2⟩ | ⟨g',cap',cur,h1,h2,h3,h4,h5,h6,h7⟩
 ·omega
 ·rw [hv] at h1
  simp only [Value.slice.injEq,Option.some.injEq,Addr.mk.injEq] at h1
  obtain ⟨⟨rfl,_⟩,_,rfl⟩:=h1
  have key:∀ j,j < 2 → w.cell? ⟨g,i * 2 + j,none⟩ = (cS l[i])[j]?:=fun j hj => by
   have h8:=flat_at cS 2 (fun _ => rfl) l i j hi hj
   rw [← h8,← h7,List.getElem?_take,if_pos (by omega),Array.getElem?_toList]
   simp [World.cell?,h3]
  refine ⟨key 0 (by omega),key 1 (by omega),?_⟩
  have hrow:w.rowIs g e (cap * 2) (fun j => cur[j]?.getD default):=by
   refine ⟨cur,h3,h6,fun j hj => ?_⟩
   have:j < cur.size:=by omega
   simp [this]
  exact hrow.frozen _
theorem infoSnZ:(Try.prog.info? 71).map (fun i => (i.zero,i.size,i.bytes)) = some (some (.agg #[.int .i64 0,.int .i64 0]),2,16):=by kernel_rfl
theorem info_parts2 {o:Option TypeInfo} {z:Value} {k m:Nat} (h:o.map (fun i => (i.zero,i.size,i.bytes)) = some (some z,k,m)):∃ i,o = some i∧i.zero = some z∧i.size = k∧i.bytes = m:=by
 obtain ⟨i,hi,hz⟩:=Option.map_eq_some_iff.1 h
 simp only [Prod.mk.injEq] at hz
 exact ⟨i,hi,hz.1,hz.2.1,hz.2.2⟩
set_option maxHeartbeats 4000000 in
theorem joined_any (l:List Sp) (v:Value) (base:Nat) (a b:Int) (w:World) (hown:w.ownsRow base 71 2 v l.length (l.flatMap cS)) (hl:l.length ≤ 100000) (hbase:base ≤ w.heap.size) :
  Calls Try.prog 20 #[v,.agg #[.int .i64 a,.int .i64 b]] w fun e w' => ∃ v',e = .returned v'∧w'.ownsRow base 71 2 v' (joinL l (a,b)).length ((joinL l (a,b)).flatMap cS)∧w.grownBy w' v.ownBlock∧(v'.ownBlock = v.ownBlock ∨ ∃ g,v'.ownBlock = some g∧w.heap.size ≤ g):=by
 obtain ⟨i3,hi3,hz3,hz31,hz32⟩:=info_parts2 infoSnZ
 obtain ⟨W,hW⟩:∃ W,W = w.alloc (.cells #[.int .i64 a,.int .i64 b] 71):=⟨_,rfl⟩
 obtain ⟨B,hB⟩:∃ B,w.heap.size = B:=⟨_,rfl⟩
 have hbw:Below w.heap.size w W:=by rw [hW]; exact (Below.refl _ _).alloc (Nat.le_refl _) _
 have c0:W.cell? ⟨B,0,none⟩ = some (.int .i64 a):=by rw [hW,← hB]; simp
 have c1:W.cell? ⟨B,1,none⟩ = some (.int .i64 b):=by rw [hW,← hB]; simp
 have lB:B < W.heap.size:=by rw [hW,← hB]; simp
 have own:=own_keep hown fun q _ _ hq => hbw.block q hq
 have HBS:Hid (w.heap.size ≤ W.heap.size):=hbw.size
 have hbW:base ≤ W.heap.size:=Nat.le_trans hbase hbw.size
 have HW:Hid (W = w.alloc (.cells #[.int .i64 a,.int .i64 b] 71)):=hW
 have HB:Hid (w.heap.size = B):=hB
 have HBW:Hid (Below w.heap.size w W):=hbw
 have HNB:Hid (∀ q,v.ownBlock = some q → q < B):=fun q hq => by rw [← hB]; exact (own_base hown hq).2
 clear hW hB hbw hown
 have hbd:Below W.heap.size W W.drew:=(Below.refl _ _).drew
 rcases List.eq_nil_or_concat l with rfl | ⟨m,y,rfl⟩
 ·obtain ⟨av,cv,rfl⟩:∃ av cv,v = .slice av 0 cv:=by
   rcases own.2 with ⟨h1,_⟩ | ⟨g,cap,cur,h1,_⟩
   ·exact ⟨_,_,h1⟩
   ·exact ⟨_,_,h1⟩
  have HJ:Hid (joinL [] (a,b) = [(a,b)]):=rfl
  have HSF:Hid (∀ w',Below W.heap.size W w' → w'.cell? ⟨B,0,none⟩ = some (.int .i64 a)):=fun w' hh => (hh.cell lB).trans c0
  simp only [List.length_nil] at own
  go_enter Try.func20,Try.ntmps20
  go_upto_region 1 with fail
  rw [← HW.out,HB.out]
  refine wp_region_X (fun w' => w'.cell? ⟨B,0,none⟩ = some (.int .i64 a)) 99 (by kernel_rfl) (HSF.out _ hbd) (fun hHeld => ?_)
  refine wpXt 0 rfl (v:=?_) (by kernel_rfl) (fun _ _ _ h => h) (by rfl) ?_ hHeld ?_
  rotate_left
  ·intro w' hSw
   go_simp <;> with_reducible rfl
  try simp only [Act.put,List.setIfInBounds_toArray,List.set_cons_zero,List.set_cons_succ]
  refine wpXt 1 rfl (v:=?_) (by kernel_rfl) (fun _ _ _ h => h) (by rfl) ?_ hHeld ?_
  rotate_left
  ·intro w' hSw
   go_simp <;> with_reducible rfl
  try simp only [Act.put,List.setIfInBounds_toArray,List.set_cons_zero,List.set_cons_succ]
  refine wpXt 2 rfl (v:=?_) (by kernel_rfl) (fun _ _ _ h => h) (by rfl) ?_ hHeld ?_
  rotate_left
  ·intro w' hSw
   go_simp <;> with_reducible rfl
  try simp only [Act.put,List.setIfInBounds_toArray,List.set_cons_zero,List.set_cons_succ]
  refine wpXt 3 rfl (v:=?_) (by kernel_rfl) (fun _ _ _ h => h) (by rfl) ?_ hHeld ?_
  rotate_left
  ·intro w' hSw
   go_simp <;> with_reducible rfl
  try simp only [Act.put,List.setIfInBounds_toArray,List.set_cons_zero,List.set_cons_succ]
  refine wpXk 4 rfl (by kernel_rfl) (fun _ _ _ h => h) (by rfl) hHeld ?_
  try simp only [Act.put,List.setIfInBounds_toArray,List.set_cons_zero,List.set_cons_succ]
  refine wpXk 5 rfl (by kernel_rfl) (fun _ _ _ h => h) (by rfl) hHeld ?_
  try simp only [Act.put,List.setIfInBounds_toArray,List.set_cons_zero,List.set_cons_succ]
  refine wpXk 6 rfl (by kernel_rfl) (fun _ _ _ h => h) (by rfl) hHeld ?_
  try simp only [Act.put,List.setIfInBounds_toArray,List.set_cons_zero,List.set_cons_succ]
  refine wpXk 7 rfl (by kernel_rfl) (fun _ _ _ h => h) (by rfl) hHeld ?_
  try simp only [Act.put,List.setIfInBounds_toArray,List.set_cons_zero,List.set_cons_succ]
  refine wpXk 8 rfl (by kernel_rfl) (fun _ _ _ h => h) (by rfl) hHeld ?_
  try simp only [Act.put,List.setIfInBounds_toArray,List.set_cons_zero,List.set_cons_succ]
  refine wpXk 9 rfl (by kernel_rfl) (fun _ _ _ h => h) (by rfl) hHeld ?_
  try simp only [Act.put,List.setIfInBounds_toArray,List.set_cons_zero,List.set_cons_succ]
  refine wpXk 10 rfl (by kernel_rfl) (fun _ _ _ h => h) (by rfl) hHeld ?_
  try simp only [Act.put,List.setIfInBounds_toArray,List.set_cons_zero,List.set_cons_succ]
  refine wpXk 11 rfl (by kernel_rfl) (fun _ _ _ h => h) (by rfl) hHeld ?_
  try simp only [Act.put,List.setIfInBounds_toArray,List.set_cons_zero,List.set_cons_succ]
  refine wpXk 12 rfl (by kernel_rfl) (fun _ _ _ h => h) (by rfl) hHeld ?_
  try simp only [Act.put,List.setIfInBounds_toArray,List.set_cons_zero,List.set_cons_succ]
  refine wpXk 13 rfl (by kernel_rfl) (fun _ _ _ h => h) (by rfl) hHeld ?_
  try simp only [Act.put,List.setIfInBounds_toArray,List.set_cons_zero,List.set_cons_succ]
  refine wpXt 14 rfl (v:=?_) (by kernel_rfl) (fun _ _ _ h => h) (by rfl) ?_ hHeld ?_
  rotate_left
  ·intro w' hSw
   go_simp <;> with_reducible rfl
  try simp only [Act.put,List.setIfInBounds_toArray,List.set_cons_zero,List.set_cons_succ]
  refine wpAnyX_done (by kernel_rfl) ?_ _
  have oA:=own.drew.alloc (.cells #[.int .i64 a,.int .i64 b] 71)
  have d0:W.drew.cell? ⟨B,0,none⟩ = some (.int .i64 a):=c0
  have d1:W.drew.cell? ⟨B,1,none⟩ = some (.int .i64 b):=c1
  go_wp2_with (at_builtin; go_must (refine wpList_append_lies _ rfl _ _ 48 rfl base 71 i3 (.agg #[.int .i64 0,.int .i64 0]) 2 16 Try.underlying48 hi3 hz3 hz31 hz32 rfl (by omega) (Value.slice av 0 cv) 0 _ (by rfl) oA ⟨W.heap.size,0,none⟩ 1 1 [.int .i64 a,.int .i64 b] (by rfl) (by rfl) ?c1 ?c2 (by omega) ?c3 ?c4 ?c5 (W.heap.size + 1) ?c6 ?_))
  rotate_left
  any_goals (first | (exact newsF rfl) | rfl | (show Value.oneCell' _ = true; simp [Value.oneCell']) | (intro u hu; simp at hu; rcases hu with rfl | rfl <;> rfl) | (unfold maxLen; omega) | omega | (simp; omega) | (simp; rfl) | (simp; done))
  intro g' cap' wb hown2 hgrow hat hgl
  have HE:Hid (wb.ownsRow base 71 2 (.slice (some ⟨g',0,none⟩) (0 + 1) cap') (joinL [] (a,b)).length ((joinL [] (a,b)).flatMap cS)∧w.grownBy wb ((Value.slice av 0 cv)).ownBlock∧((Value.slice (some ⟨g',0,none⟩) (0 + 1) cap').ownBlock = ((Value.slice av 0 cv)).ownBlock ∨ ∃ q,(Value.slice (some ⟨g',0,none⟩) (0 + 1) cap').ownBlock = some q∧w.heap.size ≤ q)):=by
   refine ⟨?_,?_,?_⟩
   ·rw [HJ.out]
    simpa [cS] using hown2
   ·have hba:Below w.heap.size w (W.drew.alloc (.cells #[.int .i64 a,.int .i64 b] 71)):=(HBW.out.drew.alloc HBW.out.drew.size _)
    exact ⟨hgrow.os.trans hba.os,hgrow.tape.trans hba.tape,hgrow.output.trans hba.output,Nat.le_trans hba.size hgrow.size,fun k hk hne => (hgrow.block k (Nat.lt_of_lt_of_le hk hba.size) hne).trans (hba.block k hk)⟩
   ·rcases hat with h1 | h1
    ·left; rw [h1]; rfl
    ·right; exact ⟨g',rfl,by have:=HBS.out; omega⟩
  clear hown2 hgrow hat hgl oA own
  go_wp2
  go_ret
  exact ⟨_,rfl,HE.out⟩
 ·rw [List.concat_eq_append] at own hl ⊢
  have elen:(m ++ [y]).length = m.length + 1:=by simp
  rw [elen] at own hl
  obtain ⟨g,cap,rfl⟩:∃ g cap,v = .slice (some ⟨g,0,none⟩) (m.length + 1) cap:=by
   rcases own.2 with ⟨_,h2⟩ | ⟨g,cap,cur,h1,_⟩
   ·omega
   ·exact ⟨_,_,h1⟩
  obtain ⟨-,y2,yz⟩:=own_cellS own rfl m.length (by simp)
  have ey:(m ++ [y])[m.length]'(by simp) = y:=by simp
  rw [ey] at y2
  clear ey
  have lg:g < W.heap.size:=(own_base own rfl).2
  have hgB:g ≠ B:=fun e => by have:=HNB.out g rfl; omega
  have HSF:Hid (∀ w',Below W.heap.size W w' → w'.cell? ⟨B,0,none⟩ = some (.int .i64 a)∧w'.cell? ⟨g,m.length * 2 + 1,none⟩ = some (.int .i64 y.2)):=fun w' hh => ⟨(hh.cell lB).trans c0,(hh.cell lg).trans y2⟩
  have wm:IntKind.i64.wrap (m.length:Int) = (m.length:Int):=by rw [IntKind.wrap_i64]; omega
  have HOWN:Hid (W.ownsRow base 71 2 (.slice (some ⟨g,0,none⟩) (m.length + 1) cap) (m.length + 1) ((m ++ [y]).flatMap cS)):=own
  have hlm:m.length ≤ 100000:=by omega
  clear own elen
  have HJ0:=joinL_snoc m y (a,b)
  obtain ⟨ya,yb⟩:=y
  simp only at y2 HJ0 HSF
  generalize hmm:m.length = k at *
  have HK:Hid (m.length = k):=hmm
  have kb:(k:Int) < (k:Int) + 1:=by omega
  clear hmm
  by_cases hya:yb = a
  ·rw [if_pos hya] at HJ0
   have HJ:Hid (joinL (m ++ [(ya,yb)]) (a,b) = m ++ [(ya,b)]):=HJ0
   have qe:(yb == a) = true:=by simp [hya]
   have HE:Hid ((W.setCell ⟨g,k * 2 + 1,none⟩ (.int .i64 b)).drew.ownsRow base 71 2 (.slice (some ⟨g,0,none⟩) (k + 1) cap) (joinL (m ++ [(ya,yb)]) (a,b)).length ((joinL (m ++ [(ya,yb)]) (a,b)).flatMap cS)∧w.grownBy (W.setCell ⟨g,k * 2 + 1,none⟩ (.int .i64 b)).drew (Value.slice (some ⟨g,0,none⟩) (k + 1) cap).ownBlock∧((Value.slice (some ⟨g,0,none⟩) (k + 1) cap).ownBlock = (Value.slice (some ⟨g,0,none⟩) (k + 1) cap).ownBlock ∨ ∃ q,(Value.slice (some ⟨g,0,none⟩) (k + 1) cap).ownBlock = some q∧w.heap.size ≤ q)):=by
    obtain ⟨h1,h2⟩:=own_setS HOWN.out (k * 2 + 1) (.int .i64 b)
    refine ⟨?_,?_,Or.inl rfl⟩
    ·rw [HJ.out]
     have e1:((m ++ [(ya,yb)]).flatMap cS).set (k * 2 + 1) (.int .i64 b) = (m ++ [(ya,b)]).flatMap cS:=by
      rw [List.flatMap_append,List.flatMap_append,List.set_append_right _ _ (by rw [cS_len,HK.out]; omega),cS_len,HK.out,show k * 2 + 1 - k * 2 = 1 by omega]
      rfl
     rw [e1] at h1
     have e2:(m ++ [(ya,b)]).length = k + 1:=by simp [HK.out]
     rw [e2]
     exact h1.drew
    ·have hba:=HBW.out
     exact ⟨h2.os.trans hba.os,h2.tape.trans hba.tape,h2.output.trans hba.output,Nat.le_trans hba.size h2.size,fun q hq hne => (h2.block q (Nat.lt_of_lt_of_le hq hba.size) hne).trans (hba.block q hq)⟩
   clear HJ0 hya HOWN
   go_enter Try.func20,Try.ntmps20
   go_upto_region 1 with fail
   rw [← HW.out,HB.out]
   refine wp_region_X (fun w' => w'.cell? ⟨B,0,none⟩ = some (.int .i64 a)∧w'.cell? ⟨g,k * 2 + 1,none⟩ = some (.int .i64 yb)) 99 (by kernel_rfl) (HSF.out _ hbd) (fun hHeld => ?_)
   refine wpXt 0 rfl (v:=?_) (by kernel_rfl) (fun _ _ _ h => h) (by rfl) ?_ hHeld ?_
   rotate_left
   ·intro w' hSw
    go_simp <;> with_reducible rfl
   try simp only [Act.put,List.setIfInBounds_toArray,List.set_cons_zero,List.set_cons_succ]
   refine wpXt 1 rfl (v:=?_) (by kernel_rfl) (fun _ _ _ h => h) (by rfl) ?_ hHeld ?_
   rotate_left
   ·intro w' hSw
    go_simp <;> with_reducible rfl
   try simp only [Act.put,List.setIfInBounds_toArray,List.set_cons_zero,List.set_cons_succ]
   refine wpXt 2 rfl (v:=?_) (by kernel_rfl) (fun _ _ _ h => h) (by rfl) ?_ hHeld ?_
   rotate_left
   ·intro w' hSw
    go_simp <;> with_reducible rfl
   try simp only [Act.put,List.setIfInBounds_toArray,List.set_cons_zero,List.set_cons_succ]
   refine wpXt 3 rfl (v:=?_) (by kernel_rfl) (fun _ _ _ h => h) (by rfl) ?_ hHeld ?_
   rotate_left
   ·intro w' hSw
    go_simp <;> with_reducible rfl
   try simp only [Act.put,List.setIfInBounds_toArray,List.set_cons_zero,List.set_cons_succ]
   refine wpXt 4 rfl (v:=?_) (by kernel_rfl) (fun _ _ _ h => h) (by rfl) ?_ hHeld ?_
   rotate_left
   ·intro w' hSw
    go_simp <;> with_reducible rfl
   try simp only [Act.put,List.setIfInBounds_toArray,List.set_cons_zero,List.set_cons_succ]
   refine wpXt 5 rfl (v:=?_) (by kernel_rfl) (fun _ _ _ h => h) (by rfl) ?_ hHeld ?_
   rotate_left
   ·intro w' hSw
    go_simp <;> with_reducible rfl
   try simp only [Act.put,List.setIfInBounds_toArray,List.set_cons_zero,List.set_cons_succ]
   refine wpXt 6 rfl (v:=?_) (by kernel_rfl) (fun _ _ _ h => h) (by rfl) ?_ hHeld ?_
   rotate_left
   ·intro w' hSw
    go_simp <;> with_reducible rfl
   try simp only [Act.put,List.setIfInBounds_toArray,List.set_cons_zero,List.set_cons_succ]
   refine wpXt 7 rfl (v:=?_) (by kernel_rfl) (fun _ _ _ h => h) (by rfl) ?_ hHeld ?_
   rotate_left
   ·intro w' hSw
    go_simp <;> with_reducible rfl
   try simp only [Act.put,List.setIfInBounds_toArray,List.set_cons_zero,List.set_cons_succ]
   refine wpXt 8 rfl (v:=?_) (by kernel_rfl) (fun _ _ _ h => h) (by rfl) ?_ hHeld ?_
   rotate_left
   ·intro w' hSw
    go_simp <;> with_reducible rfl
   try simp only [Act.put,List.setIfInBounds_toArray,List.set_cons_zero,List.set_cons_succ]
   refine wpXt 9 rfl (v:=?_) (by kernel_rfl) (fun _ _ _ h => h) (by rfl) ?_ hHeld ?_
   rotate_left
   ·intro w' hSw
    go_simp <;> with_reducible rfl
   try simp only [Act.put,List.setIfInBounds_toArray,List.set_cons_zero,List.set_cons_succ]
   refine wpXt 10 rfl (v:=?_) (by kernel_rfl) (fun _ _ _ h => h) (by rfl) ?_ hHeld ?_
   rotate_left
   ·intro w' hSw
    go_simp <;> with_reducible rfl
   try simp only [Act.put,List.setIfInBounds_toArray,List.set_cons_zero,List.set_cons_succ]
   refine wpXt 11 rfl (v:=?_) (by kernel_rfl) (fun _ _ _ h => h) (by rfl) ?_ hHeld ?_
   rotate_left
   ·intro w' hSw
    go_simp <;> with_reducible rfl
   try simp only [Act.put,List.setIfInBounds_toArray,List.set_cons_zero,List.set_cons_succ]
   refine wpXt 12 rfl (v:=?_) (by kernel_rfl) (fun _ _ _ h => h) (by rfl) ?_ hHeld ?_
   rotate_left
   ·intro w' hSw
    go_simp <;> with_reducible rfl
   try simp only [Act.put,List.setIfInBounds_toArray,List.set_cons_zero,List.set_cons_succ]
   refine wpXt 13 rfl (v:=?_) (by kernel_rfl) (fun _ _ _ h => h) (by rfl) ?_ hHeld ?_
   rotate_left
   ·intro w' hSw
    go_simp <;> with_reducible rfl
   try simp only [Act.put,List.setIfInBounds_toArray,List.set_cons_zero,List.set_cons_succ]
   refine wpXt 14 rfl (v:=?_) (by kernel_rfl) (fun _ _ _ h => h) (by rfl) ?_ hHeld ?_
   rotate_left
   ·intro w' hSw
    go_simp <;> with_reducible rfl
   try simp only [Act.put,List.setIfInBounds_toArray,List.set_cons_zero,List.set_cons_succ]
   refine wpAnyX_done (by kernel_rfl) ?_ _
   go_wp2
   go_ret
   exact ⟨.slice (some ⟨g,0,none⟩) (k + 1) cap,rfl,HE.out.1,HE.out.2.1,Or.inl rfl⟩
  ·rw [if_neg hya] at HJ0
   have HJ:Hid (joinL (m ++ [(ya,yb)]) (a,b) = m ++ [(ya,yb)] ++ [(a,b)]):=HJ0
   have qe:(yb == a) = false:=by simp [hya]
   have own:=HOWN.out
   have HL2:Hid ((m ++ [(ya,yb)] ++ [(a,b)]).length = k + 1 + 1):=by show _ = _; simp [HK.out]
   clear HJ0 hya
   go_enter Try.func20,Try.ntmps20
   go_upto_region 1 with fail
   rw [← HW.out,HB.out]
   refine wp_region_X (fun w' => w'.cell? ⟨B,0,none⟩ = some (.int .i64 a)∧w'.cell? ⟨g,k * 2 + 1,none⟩ = some (.int .i64 yb)) 99 (by kernel_rfl) (HSF.out _ hbd) (fun hHeld => ?_)
   refine wpXt 0 rfl (v:=?_) (by kernel_rfl) (fun _ _ _ h => h) (by rfl) ?_ hHeld ?_
   rotate_left
   ·intro w' hSw
    go_simp <;> with_reducible rfl
   try simp only [Act.put,List.setIfInBounds_toArray,List.set_cons_zero,List.set_cons_succ]
   refine wpXt 1 rfl (v:=?_) (by kernel_rfl) (fun _ _ _ h => h) (by rfl) ?_ hHeld ?_
   rotate_left
   ·intro w' hSw
    go_simp <;> with_reducible rfl
   try simp only [Act.put,List.setIfInBounds_toArray,List.set_cons_zero,List.set_cons_succ]
   refine wpXt 2 rfl (v:=?_) (by kernel_rfl) (fun _ _ _ h => h) (by rfl) ?_ hHeld ?_
   rotate_left
   ·intro w' hSw
    go_simp <;> with_reducible rfl
   try simp only [Act.put,List.setIfInBounds_toArray,List.set_cons_zero,List.set_cons_succ]
   refine wpXt 3 rfl (v:=?_) (by kernel_rfl) (fun _ _ _ h => h) (by rfl) ?_ hHeld ?_
   rotate_left
   ·intro w' hSw
    go_simp <;> with_reducible rfl
   try simp only [Act.put,List.setIfInBounds_toArray,List.set_cons_zero,List.set_cons_succ]
   refine wpXt 4 rfl (v:=?_) (by kernel_rfl) (fun _ _ _ h => h) (by rfl) ?_ hHeld ?_
   rotate_left
   ·intro w' hSw
    go_simp <;> with_reducible rfl
   try simp only [Act.put,List.setIfInBounds_toArray,List.set_cons_zero,List.set_cons_succ]
   refine wpXt 5 rfl (v:=?_) (by kernel_rfl) (fun _ _ _ h => h) (by rfl) ?_ hHeld ?_
   rotate_left
   ·intro w' hSw
    go_simp <;> with_reducible rfl
   try simp only [Act.put,List.setIfInBounds_toArray,List.set_cons_zero,List.set_cons_succ]
   refine wpXt 6 rfl (v:=?_) (by kernel_rfl) (fun _ _ _ h => h) (by rfl) ?_ hHeld ?_
   rotate_left
   ·intro w' hSw
    go_simp <;> with_reducible rfl
   try simp only [Act.put,List.setIfInBounds_toArray,List.set_cons_zero,List.set_cons_succ]
   refine wpXt 7 rfl (v:=?_) (by kernel_rfl) (fun _ _ _ h => h) (by rfl) ?_ hHeld ?_
   rotate_left
   ·intro w' hSw
    go_simp <;> with_reducible rfl
   try simp only [Act.put,List.setIfInBounds_toArray,List.set_cons_zero,List.set_cons_succ]
   refine wpXt 8 rfl (v:=?_) (by kernel_rfl) (fun _ _ _ h => h) (by rfl) ?_ hHeld ?_
   rotate_left
   ·intro w' hSw
    go_simp <;> with_reducible rfl
   try simp only [Act.put,List.setIfInBounds_toArray,List.set_cons_zero,List.set_cons_succ]
   refine wpXt 9 rfl (v:=?_) (by kernel_rfl) (fun _ _ _ h => h) (by rfl) ?_ hHeld ?_
   rotate_left
   ·intro w' hSw
    go_simp <;> with_reducible rfl
   try simp only [Act.put,List.setIfInBounds_toArray,List.set_cons_zero,List.set_cons_succ]
   refine wpXt 10 rfl (v:=?_) (by kernel_rfl) (fun _ _ _ h => h) (by rfl) ?_ hHeld ?_
   rotate_left
   ·intro w' hSw
    go_simp <;> with_reducible rfl
   try simp only [Act.put,List.setIfInBounds_toArray,List.set_cons_zero,List.set_cons_succ]
   refine wpXt 11 rfl (v:=?_) (by kernel_rfl) (fun _ _ _ h => h) (by rfl) ?_ hHeld ?_
   rotate_left
   ·intro w' hSw
    go_simp <;> with_reducible rfl
   try simp only [Act.put,List.setIfInBounds_toArray,List.set_cons_zero,List.set_cons_succ]
   refine wpXt 12 rfl (v:=?_) (by kernel_rfl) (fun _ _ _ h => h) (by rfl) ?_ hHeld ?_
   rotate_left
   ·intro w' hSw
    go_simp <;> with_reducible rfl
   try simp only [Act.put,List.setIfInBounds_toArray,List.set_cons_zero,List.set_cons_succ]
   refine wpXt 13 rfl (v:=?_) (by kernel_rfl) (fun _ _ _ h => h) (by rfl) ?_ hHeld ?_
   rotate_left
   ·intro w' hSw
    go_simp <;> with_reducible rfl
   try simp only [Act.put,List.setIfInBounds_toArray,List.set_cons_zero,List.set_cons_succ]
   refine wpXt 14 rfl (v:=?_) (by kernel_rfl) (fun _ _ _ h => h) (by rfl) ?_ hHeld ?_
   rotate_left
   ·intro w' hSw
    go_simp <;> with_reducible rfl
   try simp only [Act.put,List.setIfInBounds_toArray,List.set_cons_zero,List.set_cons_succ]
   refine wpAnyX_done (by kernel_rfl) ?_ _
   have oA:=own.drew.alloc (.cells #[.int .i64 a,.int .i64 b] 71)
   have d0:W.drew.cell? ⟨B,0,none⟩ = some (.int .i64 a):=c0
   have d1:W.drew.cell? ⟨B,1,none⟩ = some (.int .i64 b):=c1
   go_wp2_with (at_builtin; go_must (refine wpList_append_lies _ rfl _ _ 48 rfl base 71 i3 (.agg #[.int .i64 0,.int .i64 0]) 2 16 Try.underlying48 hi3 hz3 hz31 hz32 rfl (by omega) (Value.slice (some ⟨g,0,none⟩) (k + 1) cap) (k + 1) _ (by rfl) oA ⟨W.heap.size,0,none⟩ 1 1 [.int .i64 a,.int .i64 b] (by rfl) (by rfl) ?d1 ?d2 (by omega) ?d3 ?d4 ?d5 (W.heap.size + 1) ?d6 ?_))
   rotate_left
   any_goals (first | (exact newsF rfl) | rfl | (show Value.oneCell' _ = true; simp [Value.oneCell']) | (intro u hu; simp at hu; rcases hu with rfl | rfl <;> rfl) | (unfold maxLen; omega) | omega | (simp; omega) | (simp; rfl) | (simp; done))
   intro g' cap' wb hown2 hgrow hat hgl
   have HE:Hid (wb.ownsRow base 71 2 (.slice (some ⟨g',0,none⟩) ((k + 1) + 1) cap') (joinL (m ++ [(ya,yb)]) (a,b)).length ((joinL (m ++ [(ya,yb)]) (a,b)).flatMap cS)∧w.grownBy wb ((Value.slice (some ⟨g,0,none⟩) (k + 1) cap)).ownBlock∧((Value.slice (some ⟨g',0,none⟩) ((k + 1) + 1) cap').ownBlock = ((Value.slice (some ⟨g,0,none⟩) (k + 1) cap)).ownBlock ∨ ∃ q,(Value.slice (some ⟨g',0,none⟩) ((k + 1) + 1) cap').ownBlock = some q∧w.heap.size ≤ q)):=by
    refine ⟨?_,?_,?_⟩
    ·rw [HJ.out]
     have e9:(m ++ [(ya,yb)] ++ [(a,b)]).flatMap cS = m.flatMap cS ++ (cS (ya,yb) ++ [.int .i64 a,.int .i64 b]):=by rw [List.flatMap_append,List.flatMap_append,List.append_assoc]; rfl
     rw [HL2.out,e9]
     exact hown2
    ·have hba:Below w.heap.size w (W.drew.alloc (.cells #[.int .i64 a,.int .i64 b] 71)):=(HBW.out.drew.alloc HBW.out.drew.size _)
     exact ⟨hgrow.os.trans hba.os,hgrow.tape.trans hba.tape,hgrow.output.trans hba.output,Nat.le_trans hba.size hgrow.size,fun k hk hne => (hgrow.block k (Nat.lt_of_lt_of_le hk hba.size) hne).trans (hba.block k hk)⟩
    ·rcases hat with h1 | h1
     ·left; rw [h1]; rfl
     ·right; exact ⟨g',rfl,by have:=HBS.out; omega⟩
   clear hown2 hgrow hat hgl oA own
   go_wp2
   go_ret
   exact ⟨_,rfl,HE.out⟩
end Go.Proofs.Ytglfpnnfcpnmoaa
