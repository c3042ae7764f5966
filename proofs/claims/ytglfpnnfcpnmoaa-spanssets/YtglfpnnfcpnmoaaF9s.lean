/-
  The contract of 'flow.Check'.
-/
import Derived.Test.YtglfpnnfcpnmoaaF6
namespace Go.Proofs.Ytglfpnnfcpnmoaa
open Go.RowKit
set_option linter.unusedVariables false
set_option maxHeartbeats 4000000 in
theorem flowCheck_any (f:Fn) (K:Nat) (m0 m1:Int) (av ab:Option Addr) (cv cb:Nat) (r:Int) (hr:flowE f m0 m1 K = r) (w:World) (hv:SlOf w 1 RInt (.slice av f.values.length cv) f.values) (hb:SlOf w 3 (RBlk w) (.slice ab f.blocks.length cb) f.blocks) (hin:shapeErr f m0 m1 = 0 → FlowIn f K) :
  Calls Try.prog 17 #[.agg #[.slice av f.values.length cv,.slice ab f.blocks.length cb],.agg #[.int .i64 m0,.int .i64 m1]] w fun e w' => e = .returned (.int .i64 r)∧Below w.heap.size w w':=by
 obtain ⟨W,hW⟩:∃ W,W = (w.alloc (.cells #[.slice av f.values.length cv,.slice ab f.blocks.length cb] 30)).alloc (.cells #[.int .i64 m0,.int .i64 m1] 25):=⟨_,rfl⟩
 have hbw:Below w.heap.size w W:=by rw [hW]; exact ((Below.refl _ _).alloc (Nat.le_refl _) _).alloc (by simp) _
 have HW:Hid (W = (w.alloc (.cells #[.slice av f.values.length cv,.slice ab f.blocks.length cb] 30)).alloc (.cells #[.int .i64 m0,.int .i64 m1] 25)):=hW
 have HC:=examine_is f K m0 m1 av ab cv cb r hr W (hv.below hbw fun _ _ h => h) (hb.below hbw (RBlk.below hbw)) hin
 clear hW hv hb hin hr
 go_enter Try.func17,Try.ntmps17
 go_wp2_with fail
 rw [← HW.out]
 refine HC.mono ?_
 clear HC
 rintro e w1 ⟨a,b,c,n1,n2,n3,c1,c2,c3,rfl,_,hb1⟩
 have hbe:Below w.heap.size w w1:=hbw.trans (hb1.mono hbw.size)
 have hbe':=hbe.alloc hbe.size (.cells #[.slice a n1 c1,.slice b n2 c2,.slice c n3 c3] 81)
 go_wp2
 go_ret
 exact ⟨rfl,hbe'⟩
end Go.Proofs.Ytglfpnnfcpnmoaa
