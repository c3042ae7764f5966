/-
  A slice of numbers that begins its block: its cells.
-/
import Derived.Test.YtdlnofjmonpmgaaF1
namespace Go.Proofs.Ytdlnofjmonpmgaa
open Go.RowKit
set_option linter.unusedVariables false
theorem rowl_at {w:World} {g n c:Nat} {l:List Int} (h:SlOf w 1 RInt (.slice (some ⟨g,0,none⟩) n c) l) (i:Nat) (hi:i < l.length):w.cell? ⟨g,i,none⟩ = some (.int .i64 (l.getD i 0))∧g < w.heap.size:=by
 obtain ⟨b,off,e,hb,hc⟩:=ints_at h (i:Int) (by omega) (by omega)
 simp only [Option.some.injEq,Addr.mk.injEq] at e
 obtain ⟨rfl,rfl,_⟩:=e
 rw [Int.toNat_natCast,Nat.zero_add] at hc
 exact ⟨hc,hb⟩
end Go.Proofs.Ytdlnofjmonpmgaa
