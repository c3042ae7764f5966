/-
  The contract of 'numbers': for each row of a table the values that are marked.
-/
import Derived.Test.YtglfpnnfcpnmoaaV3
import Derived.Test.YtglfpnnfcpnmoaaF2
namespace Go.Proofs.Ytglfpnnfcpnmoaa
open Go.RowKit
set_option linter.unusedVariables false
def numR (T:Tb) (k j:Nat):List (Nat × Nat):=((List.range j).filter (T k)).map fun v => (v,k)
def numL (T:Tb) (nv k:Nat):List (Nat × Nat):=(List.range k).flatMap fun b => numR T b nv
theorem numR_succ (T:Tb) (k j:Nat):numR T k (j + 1) = if T k j = true then numR T k j ++ [(j,k)] else numR T k j:=by
 unfold numR
 rw [List.range_succ,List.filter_append,List.map_append]
 split <;> rename_i h <;> simp [h]
theorem numL_succ (T:Tb) (nv k:Nat):numL T nv (k + 1) = numL T nv k ++ numR T k nv:=by
 unfold numL
 rw [List.range_succ,List.flatMap_append]
 simp
theorem intoM_app (L L':List (Nat × Nat)) (t:Nat):intoM (L ++ L') t = intoM L t ++ intoM L' t:=by
 unfold intoM
 rw [List.filter_append,List.map_append]
theorem into_numR (T:Tb) (k j t:Nat):intoM (numR T k j) t = if k = t then rowL j (T k) else []:=by
 unfold intoM numR rowL
 rw [List.filter_map]
 split
 ·rename_i h
  subst h
  have:((fun p:Nat × Nat => p.2 == k) ∘ fun v => (v,k)) = fun _ => true:=by funext v; simp
  rw [this,List.filter_eq_self.2 (fun _ _ => rfl),List.map_map]
  rfl
 ·rename_i h
  have:((fun p:Nat × Nat => p.2 == t) ∘ fun v => (v,k)) = fun _ => false:=by funext v; simp [h]
  rw [this]
  simp
theorem into_numL (T:Tb) (nv t:Nat):∀ k,intoM (numL T nv k) t = if t < k then rowL nv (T t) else []
 | 0 => by simp [numL,intoM]
 | k + 1 => by
  rw [numL_succ,intoM_app,into_numL T nv t k,into_numR]
  by_cases e:k = t
  ·subst e
   rw [if_neg (by omega),if_pos rfl,if_pos (by omega)]
   rfl
  ·rw [if_neg e,List.append_nil]
   by_cases e2:t < k
   ·rw [if_pos e2,if_pos (by omega)]
   ·rw [if_neg e2,if_neg (by omega)]
theorem rowL_len (nv:Nat) (r:Nat → Bool):(rowL nv r).length ≤ nv:=by
 unfold rowL
 rw [List.length_map]
 have:=List.length_filter_le r (List.range nv)
 rwa [List.length_range] at this
set_option maxHeartbeats 4000000 in
theorem numbers_any (n nv r:Nat) (T:Tb) (w:World) (h:Tab w r n nv T) (hn:n ≤ 1000) (hnv:nv ≤ 1000) :
  Calls Try.prog 22 #[.slice (some ⟨r,0,none⟩) n n] w fun e w' => e = .returned (.slice (some ⟨w.heap.size,0,none⟩) n n)∧(∀ w'',(∀ b,w.heap.size ≤ b → b < w'.heap.size → w''.heap[b]? = w'.heap[b]?) → SlOf w'' 1 (RRow w'') (.slice (some ⟨w.heap.size,0,none⟩) n n) ((List.range n).map fun b => rowL nv (T b)))∧Below w.heap.size w w':=by
 obtain ⟨i3,hi3,hz3,hz31,hz32⟩:=info_parts infoFI
 have hmk:=run_make_row' (P:=Try.prog) 50 27 (.slice none 0 0) 24 Try.underlying50 (by kernel_rfl) rfl .i64 .i64 n (by omega) (by omega)
 obtain ⟨R,hR⟩:∃ R,w.heap.size = R:=⟨_,rfl⟩
 obtain ⟨W,hW⟩:∃ W,W = w.alloc (.cells (madeCells #[.slice none 0 0] n) 27):=⟨_,rfl⟩
 have hbw:Below w.heap.size w W:=by rw [hW]; exact (Below.refl _ _).alloc (Nat.le_refl _) _
 have hst:PSt W R n (fun _ => .slice none 0 0) (numL T nv 0):=by
  rw [hW,← hR]
  refine ⟨World.rowIs_made _ _ _ _,fun i hi => ?_,fun i j g _ _ _ h => by simp [Value.ownBlock] at h⟩
  exact ⟨rfl,Or.inl ⟨rfl,rfl⟩⟩
 have HW:Hid (W = w.alloc (.cells (madeCells #[.slice none 0 0] n) 27)):=hW
 have HR:Hid (w.heap.size = R):=hR
 have HS0:Hid (PSt W R n (fun _ => .slice none 0 0) (numL T nv 0)∧Below R w W):=⟨hst,by rw [← hR]; exact hbw⟩
 have HT:Hid (∀ w',Below R w w' → Tab w' r n nv T):=fun w' hh => h.keep fun k hk _ _ => hh.block k (by omega)
 have HLR:Hid (r + n < R):=by show _ < _; rw [← hR]; exact h.hi
 clear hW hst hbw h hR
 go_enter Try.func22,Try.ntmps22
 go_upto_region 2 with fail
 rw [← HW.out,HR.out]
 clear HW hmk
 go_wp2_with fail
 go_loopw [13] (fun i wr => ∃ (k:Nat) (vs:Nat → Value),k ≤ n∧i = .int .i64 k∧Hid (PSt wr R n vs (numL T nv k)∧Below R w wr)) (fun i _ => n - (intOf i).toNat)
 case atStart => exact ⟨0,_,Nat.zero_le _,rfl,HS0⟩
 case round =>
  clear HS0
  obtain ⟨k,vs,hk,rfl,HI⟩:=hrel
  by_cases hlt:k < n
  ·have t1:wr.cell? ⟨r,k,none⟩ = some (.slice (some ⟨r + 1 + k,0,none⟩) nv nv):=(HT.out _ HI.out.2).row.cell hlt
   have HI2:Hid (PSt wr R n vs (numL T nv k ++ numR T k 0)∧Below R w wr):=by simpa [numR] using HI
   clear HI
   go_wp2_with fail
   clear t1
   go_loopw [20] (fun i w2 => ∃ (j:Nat) (us:Nat → Value),j ≤ nv∧i = .int .i64 j∧Hid (PSt w2 R n us (numL T nv k ++ numR T k j)∧Below R w w2)) (fun i _ => nv - (intOf i).toNat)
   case atStart => exact ⟨0,vs,Nat.zero_le _,rfl,HI2⟩
   case round =>
    clear HI2
    obtain ⟨j,us,hj,rfl,HJ⟩:=hrel
    by_cases hjl:j < nv
    ·have t2:=((HT.out _ HJ.out.2).rows k hlt).cell hjl
     have HS:=numR_succ T k j
     cases hb:T k j
     ·rw [hb] at t2
      rw [hb,if_neg (by simp)] at HS
      have HN:Hid (PSt wr R n us (numL T nv k ++ numR T k (j + 1))∧Below R w wr):=by
       show _∧_
       rw [HS]
       exact HJ.out
      clear HS hb HJ
      go_wp2
      go_roundw
      case rel => exact ⟨j + 1,us,by omega,by go_num,HN⟩
      case measure => simp [intOf]; omega
     ·rw [hb] at t2
      rw [hb,if_pos rfl] at HS
      have HL:Hid (numL T nv k ++ numR T k (j + 1) = (numL T nv k ++ numR T k j) ++ [(j,k)]):=by
       show _ = _
       rw [HS,List.append_assoc]
      have hil:(intoM (numL T nv k ++ numR T k j) k).length ≤ 1000:=by
       rw [intoM_app,into_numL,into_numR,if_neg (by omega),if_pos rfl,List.nil_append]
       have:=rowL_len j (T k)
       omega
      clear HS hb
      generalize numL T nv k ++ numR T k j = L at *
      have r0:=HJ.out.1.row.cell hlt
      have rz:=HJ.out.1.row.frozen k
      have rl:=HJ.out.1.row.lt
      have own:=HJ.out.1.own k hlt
      have HV:Hid (∃ v,us k = v):=⟨_,rfl⟩
      obtain ⟨v,hv⟩:=HV.out
      rw [hv] at r0 own
      have nR:some R ≠ v.ownBlock:=fun e => by have:=own_base own e.symm; omega
      have oA:=own.alloc (.cells #[.int .i64 j] 3)
      have hsz:R + 1 ≤ wr.heap.size:=by omega
      have HVK:Hid (us k = v):=hv
      clear hv HV
      go_wp2_with (at_builtin; go_must (refine wpList_append_lies _ rfl _ _ 27 rfl (R + 1) 3 i3 (.int .i64 0) 1 8 Try.underlying27 hi3 hz3 hz31 hz32 rfl (by omega) v (intoM L k).length _ (by rfl) oA ⟨wr.heap.size,0,none⟩ 1 1 [.int .i64 j] (by rfl) (by rfl) ?c1 ?c2 (by omega) ?c3 ?c4 ?c5 (wr.heap.size + 1) ?c6 ?_))
      rotate_left
      any_goals (first | (exact newsF rfl) | rfl | (show Value.oneCell' _ = true; simp [Value.oneCell']) | (intro u hu; simp at hu; subst hu; rfl) | (unfold maxLen; omega) | omega | (simp; omega) | (simp; rfl) | (simp; done))
      intro g cap wb hown hgrow hat hgl
      have LP:=old_cell R
      have lP':R < (wr.alloc (.cells #[.int .i64 j] 3)).heap.size:=by simp; omega
      have o1':=(hgrow.cell_far ⟨R,k,none⟩ lP' nR).trans ((LP _ _ _ rl).trans r0)
      have oz':=(hgrow.frozen_far ⟨R,k,none⟩ lP' nR).trans ((frozen?_alloc_cells _ _ _ _).trans rz)
      have HN:Hid (PSt (wb.setCell ⟨R,k,none⟩ (.slice (some ⟨g,0,none⟩) ((intoM L k).length + 1) cap)) R n (fun i => if i = k then .slice (some ⟨g,0,none⟩) ((intoM L k).length + 1) cap else us i) (numL T nv k ++ numR T k (j + 1))∧Below R w (wb.setCell ⟨R,k,none⟩ (.slice (some ⟨g,0,none⟩) ((intoM L k).length + 1) cap))):=by
       have hP:=HJ.out.1.push (a:=j) (g:=g) (cap:=cap) (H:=wr.heap.size + 1) hlt ((Below.refl _ _).alloc (Nat.le_refl _) (.cells #[.int .i64 j] 3)) (by rw [HVK.out]; exact hgrow) hown (by rw [HVK.out]; exact hat) (by omega)
       refine ⟨by rw [HL.out]; exact hP,?_⟩
       have hba:Below R w (wr.alloc (.cells #[.int .i64 j] 3)):=HJ.out.2.alloc (by omega) _
       exact (hba.grown hgrow (by simp; omega) fun q hq => by have:=own_base own hq; omega).setCell (Nat.le_refl _) _
      clear hown hgrow hat hgl oA own r0 rz LP lP' HJ HL HVK
      go_wp2
      go_roundw
      case rel => exact ⟨j + 1,_,by omega,by go_num,HN⟩
      case measure => simp [intOf]; omega
    ·have HN:Hid (PSt wr R n us (numL T nv (k + 1))∧Below R w wr):=by
      have h:=HJ.out
      rw [show j = nv by omega] at h
      show _∧_
      rw [numL_succ]
      exact h
     clear HJ
     go_wp2
     go_roundw
     case rel => exact ⟨k + 1,us,by omega,by go_num,HN⟩
     case measure => simp [intOf]; omega
  ·have HE:Hid ((∀ w'',(∀ b,R ≤ b → b < wr.heap.size → w''.heap[b]? = wr.heap[b]?) → SlOf w'' 1 (RRow w'') (.slice (some ⟨R,0,none⟩) n n) ((List.range n).map fun b => rowL nv (T b)))∧Below R w wr):=by
    have h:=HI.out
    rw [show k = n by omega] at h
    refine ⟨fun w'' hk => ?_,h.2⟩
    have h1:PSt w'' R n vs (numL T nv n):=⟨h.1.row.of_block (hk R (Nat.le_refl _) h.1.row.lt),fun i hi => own_keep (h.1.own i hi) fun g _ hb hg => hk g (by omega) hg,h.1.apart⟩
    have hsl:SlOf w'' 1 (RRow w'') (.slice (some ⟨R,0,none⟩) n n) ((List.range n).map (intoM (numL T nv n))):=by
     refine ⟨_,n,by simp,by simp; unfold longest; omega,Or.inr ⟨R,0,rfl,fun i hi => ?_⟩⟩
     have hi':i < n:=by simpa using hi
     refine ⟨[vs i],rfl,⟨vs i,rfl,?_⟩,fun q hq => ?_⟩
     ·rw [List.getElem_map,List.getElem_range]
      refine own_ints _ (h1.own i hi') ?_
      rw [into_numL,if_pos hi']
      have:=rowL_len nv (T i)
      unfold longest
      omega
     ·have:q = 0:=by simp at hq; exact hq
      subst this
      simp only [Nat.mul_one,Nat.add_zero,Nat.zero_add,List.getElem_cons_zero]
      exact h1.row.cell hi'
    have e:(List.range n).map (intoM (numL T nv n)) = (List.range n).map fun b => rowL nv (T b):=List.map_congr_left fun b hb => by rw [into_numL,if_pos (List.mem_range.1 hb)]
    rw [← e]
    exact hsl
   clear HI
   go_wp2
   go_ret
   rw [HR.out]
   exact ⟨rfl,HE.out⟩
end Go.Proofs.Ytglfpnnfcpnmoaa
