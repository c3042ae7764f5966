/-
  How long values stay in a block, in plain terms; the contracts of 'only' and 'upTo'.
-/
import Derived.Test.YtglfpnnfcpnmoaaV3
import Derived.Test.YtglfpnnfcpnmoaaV1
import Derived.Test.YtglfpnnfcpnmoaaF3
namespace Go.Proofs.Ytglfpnnfcpnmoaa
open Go.RowKit
set_option linter.unusedVariables false
abbrev Sp:=Int × Int
def upS (s:Nat → Sp) (v:Nat) (x:Sp):Nat → Sp:=fun u => if u = v then x else s u
def stIn (I:Tb) (b:Nat) (fst:Int) (k:Nat):Nat → Sp:=fun v => if v < k∧I b v = true then (fst,fst + 1) else (0,0)
def stPar (fst:Int) (s:Nat → Sp) (ps:List Int):Nat → Sp:=ps.foldl (fun s v => upS s v.toNat (fst,fst + 1)) s
def stOpr (early:Int) (s:Nat → Sp) (o:Opr):Nat → Sp :=
 if o.kind = 2 then upS s o.value.toNat (if o.late = true then early + 1 else early,early + 2)
 else upS s o.value.toNat ((s o.value.toNat).1,max (s o.value.toNat).2 ((if o.late = true then early + 1 else early) + 1))
def stOprs (early:Int) (s:Nat → Sp) (os:List Opr):Nat → Sp:=os.foldl (stOpr early) s
def stIns (fst:Int) (s:Nat → Sp) (is:List Ins) (k:Nat):Nat → Sp:=(List.range k).foldl (fun s (i:Nat) => stOprs (fst + 1 + 2 * (i:Int)) s (is.getD i ⟨0,[],[]⟩).operands) s
def stOut (O:Tb) (b:Nat) (fin:Int) (s:Nat → Sp) (k:Nat):Nat → Sp:=fun v => if v < k∧O b v = true then ((s v).1,max (s v).2 (fin + 1)) else s v
def stMid (x:Blk) (I:Tb) (b nv:Nat) (fst:Int):Nat → Sp:=stIns fst (stPar fst (stIn I b fst nv) x.params) x.instrs x.instrs.length
def stayM (x:Blk) (I O:Tb) (b nv:Nat) (fst:Int):Nat → Sp:=stOut O b (fst + 1 + 2 * (x.instrs.length:Int)) (stMid x I b nv fst) nv
theorem stIn_succ (I:Tb) (b:Nat) (fst:Int) (k:Nat):stIn I b fst (k + 1) = if I b k = true then upS (stIn I b fst k) k (fst,fst + 1) else stIn I b fst k:=by
 split
 ·rename_i h
  funext v
  unfold upS stIn
  by_cases e:v = k
  ·subst e; simp [h]
  ·rw [if_neg e]
   by_cases e2:v < k
   ·have:v < k + 1:=by omega
    simp [e2,this]
   ·have:¬ v < k + 1:=by omega
    simp [e2,this]
 ·rename_i h
  funext v
  unfold stIn
  by_cases e:v = k
  ·subst e; simp [h]
  ·by_cases e2:v < k
   ·have:v < k + 1:=by omega
    simp [e2,this]
   ·have:¬ v < k + 1:=by omega
    simp [e2,this]
theorem stOut_succ (O:Tb) (b:Nat) (fin:Int) (s:Nat → Sp) (k:Nat):stOut O b fin s (k + 1) = if O b k = true then upS (stOut O b fin s k) k ((stOut O b fin s k k).1,max (stOut O b fin s k k).2 (fin + 1)) else stOut O b fin s k:=by
 split
 ·rename_i h
  funext v
  unfold upS stOut
  by_cases e:v = k
  ·subst e; simp [h]
  ·rw [if_neg e]
   by_cases e2:v < k
   ·have:v < k + 1:=by omega
    simp [e2,this]
   ·have:¬ v < k + 1:=by omega
    simp [e2,this]
 ·rename_i h
  funext v
  unfold stOut
  by_cases e:v = k
  ·subst e; simp [h]
  ·by_cases e2:v < k
   ·have:v < k + 1:=by omega
    simp [e2,this]
   ·have:¬ v < k + 1:=by omega
    simp [e2,this]
theorem stPar_take (fst:Int) (s:Nat → Sp) (ps:List Int) (j:Nat) (h:j < ps.length):stPar fst s (ps.take (j + 1)) = upS (stPar fst s (ps.take j)) ps[j].toNat (fst,fst + 1):=by
 unfold stPar
 rw [List.take_succ_eq_append_getElem h,List.foldl_append]
 rfl
theorem stOprs_take (early:Int) (s:Nat → Sp) (os:List Opr) (j:Nat) (h:j < os.length):stOprs early s (os.take (j + 1)) = stOpr early (stOprs early s (os.take j)) os[j]:=by
 unfold stOprs
 rw [List.take_succ_eq_append_getElem h,List.foldl_append]
 rfl
theorem stIns_succ (fst:Int) (s:Nat → Sp) (is:List Ins) (k:Nat) (h:k < is.length):stIns fst s is (k + 1) = stOprs (fst + 1 + 2 * (k:Int)) (stIns fst s is k) is[k].operands:=by
 unfold stIns
 rw [List.range_succ,List.foldl_append]
 simp [List.getD,h]
def spanC (s:Nat → Sp) (i:Nat):Value:=.int .i64 (if i % 2 = 0 then (s (i / 2)).1 else (s (i / 2)).2)
theorem span_put {w:World} {R nv:Nat} {s:Nat → Sp} (h:w.rowIs R 71 (nv * 2) (spanC s)) (v:Nat) (x:Sp):((w.setCell ⟨R,v * 2,none⟩ (.int .i64 x.1)).setCell ⟨R,v * 2 + 1,none⟩ (.int .i64 x.2)).rowIs R 71 (nv * 2) (spanC (upS s v x)):=by
 refine ((h.set (v * 2) _).set (v * 2 + 1) _).congr fun i hi => ?_
 unfold spanC upS
 by_cases e1:i = v * 2 + 1
 ·rw [if_pos e1,if_neg (by omega),if_pos (by omega)]
 ·rw [if_neg e1]
  by_cases e2:i = v * 2
  ·rw [if_pos e2,if_pos (by omega),if_pos (by omega)]
  ·rw [if_neg e2]
   have:i / 2 ≠ v:=by omega
   rw [if_neg this]
theorem only_any (p:Int) (w:World) (h0:0 ≤ p) (h1:p ≤ 1000000000):Calls Try.prog 31 #[.int .i64 p] w fun e w' => e = .returned (.agg #[.int .i64 p,.int .i64 (p + 1)])∧Below w.heap.size w w':=by
 have wp:IntKind.i64.wrap (p + 1) = p + 1:=by rw [IntKind.wrap_i64]; omega
 have hb:Below w.heap.size w (w.alloc (.cells #[.int .i64 p,.int .i64 (p + 1)] 71)):=(Below.refl _ _).alloc (Nat.le_refl _) _
 go_enter Try.func31,Try.ntmps31
 go_wp2
 refine bodyPost_ret (v:=.agg #[.int .i64 p,.int .i64 (p + 1)]) (by simp [results,Try.results31,go_sem]) rfl ⟨rfl,hb⟩
theorem upTo_any (a b p:Int) (w:World) (h0:0 ≤ p) (h1:p ≤ 1000000000):Calls Try.prog 33 #[.agg #[.int .i64 a,.int .i64 b],.int .i64 p] w fun e w' => e = .returned (.agg #[.int .i64 a,.int .i64 (max b (p + 1))])∧Below w.heap.size w w':=by
 have wp:IntKind.i64.wrap (p + 1) = p + 1:=by rw [IntKind.wrap_i64]; omega
 go_enter Try.func33,Try.ntmps33
 go_wp2
 have hb:Below w.heap.size w ((w.alloc (.cells #[.int .i64 a,.int .i64 (max b (p + 1))] 71)).alloc (.cells #[.int .i64 a,.int .i64 (max b (p + 1))] 71)):=((Below.refl _ _).alloc (Nat.le_refl _) _).alloc (by simp) _
 refine bodyPost_ret (v:=.agg #[.int .i64 a,.int .i64 (max b (p + 1))]) (by simp [results,Try.results33,go_sem]) rfl ⟨rfl,hb⟩
end Go.Proofs.Ytglfpnnfcpnmoaa
