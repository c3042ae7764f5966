/-
  The contracts of 'earlyOf', 'endOf' and 'Starts': the first point of each block.
-/
import Derived.Test.YtglfpnnfcpnmoaaA4
import Derived.Laws.MakeOwn
import Derived.Deep.OwnRows
namespace Go.Proofs.Ytglfpnnfcpnmoaa
open Go.RowKit
set_option linter.unusedVariables false
def ptW (x:Int):Int:=wrap64 x
theorem ptW_id {x:Int} (h0:-9223372036854775808 ≤ x) (h1:x ≤ 9223372036854775807):ptW x = x:=by unfold ptW wrap64; omega
def startM (bs:List Blk) (k:Nat):Int:=((bs.take k).map fun b => 2 + 2 * (b.instrs.length:Int)).sum
theorem startM_succ (bs:List Blk) (k:Nat) (h:k < bs.length):startM bs (k + 1) = startM bs k + (2 + 2 * (bs[k].instrs.length:Int)):=by
 unfold startM
 rw [List.take_succ_eq_append_getElem h,List.map_append,List.sum_append]
 simp
def startsW (bs:List Blk) (k:Nat):List Int:=(List.range k).map fun i => ptW (startM bs i)
theorem startsW_succ (bs:List Blk) (k:Nat):startsW bs (k + 1) = startsW bs k ++ [ptW (startM bs k)]:=by
 unfold startsW
 rw [List.range_succ,List.map_append]
 rfl
theorem startsW_length (bs:List Blk) (k:Nat):(startsW bs k).length = k:=by simp [startsW]
theorem earlyOf_any (a b:Int) (w:World):Calls Try.prog 32 #[.int .i64 a,.int .i64 b] w fun e w' => e = .returned (.int .i64 (ptW (a + 1 + 2 * b)))∧w' = w:=by
 go_enter Try.func32,Try.ntmps32
 go_wp2
 go_ret
 refine ⟨?_,rfl⟩
 have e:wrap64 (wrap64 (a + 1) + wrap64 (2 * b)) = ptW (a + 1 + 2 * b):=by unfold ptW wrap64; omega
 show Ending.returned (.int .i64 (wrap64 (wrap64 (a + 1) + wrap64 (2 * b)))) = _
 rw [e]
theorem endOf_any (vp ve:Value) (ai:Option Addr) (ni ci:Nat) (a:Int) (w:World) (hni:ni ≤ 9000000000000000000):Calls Try.prog 21 #[.agg #[vp,.slice ai ni ci,ve],.int .i64 a] w fun e w' => e = .returned (.int .i64 (ptW (a + 1 + 2 * ni)))∧Below w.heap.size w w':=by
 have hb:Below w.heap.size w (w.alloc (.cells #[vp,.slice ai ni ci,ve] 40)):=(Below.refl _ _).alloc (Nat.le_refl _) _
 go_enter Try.func21,Try.ntmps21
 go_wp2_with fail
 refine (earlyOf_any _ _ _).mono ?_
 rintro e w' ⟨rfl,rfl⟩
 go_wp2
 go_ret
 exact ⟨rfl,hb⟩
end Go.Proofs.Ytglfpnnfcpnmoaa
