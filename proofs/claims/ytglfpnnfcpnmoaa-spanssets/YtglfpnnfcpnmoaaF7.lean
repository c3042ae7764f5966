/-
  Why the rounds come to an end: what a block's ways up are. No Go in here.
-/
import Derived.Test.YtglfpnnfcpnmoaaF1
import Derived.Test.YtglfpnnfcpnmoaaF6
import Derived.Test.YtglfpnnfcpnmoaaA4
namespace Go.Proofs.Ytglfpnnfcpnmoaa
open Go.RowKit
set_option linter.unusedVariables false
inductive Up (root:Int) (idom:Nat → Int):Int → Int → Prop
 | refl (v:Int):Up root idom v v
 | step {v x:Int} (h:v ≠ root) (k:Up root idom (idom v.toNat) x):Up root idom v x
theorem Up.cases_ne {root:Int} {idom:Nat → Int} {v x:Int} (h:Up root idom v x) (hne:x ≠ v):v ≠ root∧Up root idom (idom v.toNat) x:=by
 cases h with
 | refl => exact absurd rfl hne
 | step h k => exact ⟨h,k⟩
theorem Up.kn {n:Nat} {root:Int} {rank idom:Nat → Int} (hk:KT n root rank idom) {v x:Int} (h:Up root idom v x) (hv:Kn n root idom v):Kn n root idom x∧rank x.toNat ≤ rank v.toNat:=by
 induction h with
 | refl v => exact ⟨hv,Int.le_refl _⟩
 | step hne k ih =>
  have h1:=hk.up _ hv hne
  have h2:=ih h1.1
  exact ⟨h2.1,by have:=h1.2; omega⟩
theorem Up.rank_eq {n:Nat} {root:Int} {rank idom:Nat → Int} (hk:KT n root rank idom) {v x:Int} (h:Up root idom v x) (hv:Kn n root idom v) (he:rank v.toNat ≤ rank x.toNat):x = v:=by
 by_cases e:x = v
 ·exact e
 ·have h1:=h.cases_ne e
  have h2:=hk.up v hv h1.1
  have h3:=h1.2.kn hk h2.1
  have:=h2.2
  omega
theorem meet_up {n:Nat} {root:Int} {rank idom:Nat → Int} (hk:KT n root rank idom):∀ (k:Nat) (a b x:Int),Kn n root idom a → Kn n root idom b → rank a.toNat + rank b.toNat < k → (Up root idom (meetM rank idom k a b) x ↔ Up root idom a x∧Up root idom b x)
 | 0,a,b,x,ha,hb,h => by
  have:=hk.rng a ha.1 ha.2.1
  have:=hk.rng b hb.1 hb.2.1
  omega
 | k + 1,a,b,x,ha,hb,h => by
  simp only [meetM]
  by_cases hab:a = b
  ·rw [if_pos hab,hab]
   exact ⟨fun h => ⟨h,h⟩,fun h => h.1⟩
  ·rw [if_neg hab]
   by_cases hgt:rank a.toNat > rank b.toNat
   ·rw [if_pos hgt]
    have har:a ≠ root:=by
     intro e
     have:=hk.low b hb.1 hb.2.1
     rw [← e] at this
     omega
    have hup:=hk.up a ha har
    rw [meet_up hk k _ b x hup.1 hb (by have:=hup.2; omega)]
    refine ⟨fun h => ⟨.step har h.1,h.2⟩,fun h => ⟨?_,h.2⟩⟩
    have hx:=h.2.kn hk hb
    exact (h.1.cases_ne (fun e => by rw [e] at hx; omega)).2
   ·rw [if_neg hgt]
    have hbr:b ≠ root:=by
     intro e
     have h1:=hk.low a ha.1 ha.2.1
     rw [← e] at h1
     exact hab (hk.inj a b ha.1 ha.2.1 hb.1 hb.2.1 (by omega))
    have hup:=hk.up b hb hbr
    rw [meet_up hk k a _ x ha hup.1 (by have:=hup.2; omega)]
    refine ⟨fun h => ⟨h.1,.step hbr h.2⟩,fun h => ⟨h.1,?_⟩⟩
    have hx:=h.1.kn hk ha
    refine (h.2.cases_ne (fun e => ?_)).2
    rw [e] at hx
    exact hab (hk.inj a b ha.1 ha.2.1 hb.1 hb.2.1 (by omega))
theorem near_up {n:Nat} {root:Int} {rank idom:Nat → Int} (hk:KT n root rank idom):∀ (l:List Int) (next x:Int),(∀ p ∈ l,0 ≤ p∧p < (n:Int)) → (next = -1 ∨ Kn n root idom next) → l.foldl (nearStep root rank idom n) next ≠ -1 →
  (Up root idom (l.foldl (nearStep root rank idom n) next) x ↔ (next ≠ -1 → Up root idom next x)∧∀ p ∈ l,Kn n root idom p → Up root idom p x)
 | [],next,x,_,hn,hr => by
  simp only [List.foldl_nil] at hr ⊢
  exact ⟨fun h => ⟨fun _ => h,fun p hp => by simp at hp⟩,fun h => h.1 hr⟩
 | p :: r,next,x,hin,hn,hr => by
  have hp:=hin p List.mem_cons_self
  have hs:=nearStep_kn hk next p hn hp
  rw [List.foldl_cons] at hr ⊢
  rw [near_up hk r _ x (fun q hq => hin q (List.mem_cons_of_mem _ hq)) hs hr]
  by_cases h:p ≠ root∧idom p.toNat = -1
  ·have e:nearStep root rank idom n next p = next:=by unfold nearStep; rw [if_pos h]
   have hnk:¬ Kn n root idom p:=fun k => by rcases k.2.2 with h1 | h1; exact h.1 h1; exact h1 h.2
   rw [e]
   refine ⟨fun hh => ⟨hh.1,fun q hq kq => ?_⟩,fun hh => ⟨hh.1,fun q hq kq => hh.2 q (List.mem_cons_of_mem _ hq) kq⟩⟩
   rcases List.mem_cons.1 hq with rfl | hq
   ·exact absurd kq hnk
   ·exact hh.2 q hq kq
  ·have kp:Kn n root idom p:=⟨hp.1,hp.2,by by_cases e:p = root; exact Or.inl e; exact Or.inr fun e2 => h ⟨e,e2⟩⟩
   by_cases hne:next = -1
   ·have e:nearStep root rank idom n next p = p:=by unfold nearStep; rw [if_neg h,if_pos hne]
    rw [e]
    refine ⟨fun hh => ⟨fun h1 => absurd hne h1,fun q hq kq => ?_⟩,fun hh => ⟨fun _ => hh.2 p List.mem_cons_self kp,fun q hq kq => hh.2 q (List.mem_cons_of_mem _ hq) kq⟩⟩
    rcases List.mem_cons.1 hq with rfl | hq
    ·exact hh.1 (by have:=kp.1; omega)
    ·exact hh.2 q hq kq
   ·have kx:=hn.resolve_left hne
    have e:nearStep root rank idom n next p = meetM rank idom (2 * n) next p:=by unfold nearStep; rw [if_neg h,if_neg hne]
    have r1:=hk.rng _ kx.1 kx.2.1
    have r2:=hk.rng _ kp.1 kp.2.1
    have m:=meetM_kn hk (2 * n) _ _ kx kp (by omega)
    have mu:=meet_up hk (2 * n) next p x kx kp (by omega)
    rw [e]
    refine ⟨fun hh => ?_,fun hh => ⟨fun _ => mu.2 ⟨hh.1 hne,hh.2 p List.mem_cons_self kp⟩,fun q hq kq => hh.2 q (List.mem_cons_of_mem _ hq) kq⟩⟩
    have h1:=mu.1 (hh.1 (by have:=m.1.1; omega))
    refine ⟨fun _ => h1.1,fun q hq kq => ?_⟩
    rcases List.mem_cons.1 hq with rfl | hq
    ·exact h1.2
    ·exact hh.2 q hq kq
section
variable {n:Nat} {preds:List (List Int)} {order:List Int}
theorem Up.trans {root:Int} {idom:Nat → Int} {a b c:Int} (h:Up root idom a b) (k:Up root idom b c):Up root idom a c:=by
 induction h with
 | refl => exact k
 | step hne _ ih => exact .step hne (ih k)
theorem Gr.pos_ne (g:Gr n preds order) (v:Int) (v0:0 ≤ v) (j:Nat) (hj:j < n) (h:rankM order v.toNat ≠ j):¬ v.toNat = (order.getD j 0).toNat:=by
 intro e
 apply h
 rw [e,g.rank_at j hj]
theorem idJ_late (g:Gr n preds order) (t:Nat) (v:Int) (v0:0 ≤ v):∀ j:Nat,j < n → (j:Int) < rankM order v.toNat → idJ preds order n t j v.toNat = roundsM (predL preds) order n t v.toNat
 | 0,_,_ => rfl
 | j + 1,hj,h => by
  rw [idJ_succ g t j hj]
  unfold upI
  rw [if_neg (g.pos_ne v v0 (j + 1) hj (by omega))]
  exact idJ_late g t v v0 j (by omega) (by omega)
theorem idJ_early (g:Gr n preds order) (t:Nat) (v:Int) (v0:0 ≤ v) (j:Nat) (h:rankM order v.toNat ≤ j):∀ d:Nat,j + d < n → idJ preds order n t (j + d) v.toNat = idJ preds order n t j v.toNat
 | 0,_ => rfl
 | d + 1,hd => by
  rw [← Nat.add_assoc,idJ_succ g t (j + d) (by omega)]
  unfold upI
  rw [if_neg (g.pos_ne v v0 (j + d + 1) (by omega) (by omega))]
  exact idJ_early g t v v0 j h d (by omega)
theorem idJ_low (g:Gr n preds order) (t:Nat) (v:Int) (v0:0 ≤ v) (j:Nat) (hj:j < n) (h:rankM order v.toNat ≤ j):idJ preds order n t j v.toNat = roundsM (predL preds) order n (t + 1) v.toNat:=by
 have h1:=idJ_early g t v v0 j h (n - 1 - j) (by omega)
 rw [← h1,idJ_end g t _ (by omega)]
theorem all_kn (g:Gr n preds order) (t:Nat) (ht:0 < t) (v:Int) (v0:0 ≤ v) (v1:v < n):Kn n (order.getD 0 0) (roundsM (predL preds) order n t) v:=by
 have h:=(RI.rounds g t).2 ht
 have hm:=List.idxOf_lt_length_of_mem (g.all v v0 v1)
 have hol:=g.olen
 have ho:order.getD (order.idxOf v) 0 = v:=by
  rw [List.getD_eq_getElem?_getD,List.getElem?_eq_getElem hm]
  exact List.getElem_idxOf hm
 have:=h.kn (order.idxOf v) (by omega) (by omega)
 rw [ho] at this
 exact this
theorem kt_at (g:Gr n preds order) (t:Nat):KT n (order.getD 0 0) (rankM order) (roundsM (predL preds) order n t):=(RI.rounds g t).1.kt
theorem Gr.root_rank (g:Gr n preds order) (v:Int) (v0:0 ≤ v) (v1:v < n):v = order.getD 0 0 ↔ rankM order v.toNat = 0:=by
 have h0:=g.rank_at 0 g.pos
 refine ⟨fun e => by rw [e,h0]; rfl,fun e => g.inj v _ v0 v1 g.root.1 g.root.2 (by rw [e,h0]; rfl)⟩
theorem mix_low (g:Gr n preds order) (t j:Nat) (hj:j < n):∀ (m:Nat) (v x:Int),0 ≤ v → v < n → rankM order v.toNat ≤ j → rankM order v.toNat ≤ m → (Up (order.getD 0 0) (idJ preds order n t j) v x ↔ Up (order.getD 0 0) (roundsM (predL preds) order n (t + 1)) v x)
 | m,v,x,v0,v1,h,hm => by
  have hkn:=all_kn g (t + 1) (by omega) v v0 v1
  have e:=idJ_low g t v v0 j hj h
  by_cases hx:x = v
  ·subst hx; exact ⟨fun _ => .refl _,fun _ => .refl _⟩
  ·by_cases hr:v = order.getD 0 0
   ·exact ⟨fun h => absurd hr (h.cases_ne hx).1,fun h => absurd hr (h.cases_ne hx).1⟩
   ·have hup:=(kt_at g (t + 1)).up v hkn hr
    have hrv:rankM order v.toNat ≠ 0:=fun e2 => hr ((g.root_rank v v0 v1).2 e2)
    match m,hm with
    | 0,hm =>
     have:=(kt_at g (t + 1)).rng v v0 v1
     omega
    | m + 1,hm =>
     have ih:=mix_low g t j hj m _ x hup.1.1 hup.1.2.1 (by have:=hup.2; omega) (by have:=hup.2; omega)
     refine ⟨fun h => .step hr (ih.1 ?_),fun h => .step hr ?_⟩
     ·have:=(h.cases_ne hx).2
      rw [e] at this
      exact this
     ·rw [e]
      exact ih.2 (h.cases_ne hx).2
theorem char_up (g:Gr n preds order) (t j:Nat) (hj:j + 1 < n) (b x:Int) (hb:b = order.getD (j + 1) 0):Up (order.getD 0 0) (roundsM (predL preds) order n (t + 1)) b x ↔ x = b ∨ ∀ p ∈ preds.getD b.toNat [],Kn n (order.getD 0 0) (idJ preds order n t j) p → Up (order.getD 0 0) (idJ preds order n t j) p x:=by
 have hbr:=g.getD_rng (j + 1) hj
 rw [← hb] at hbr
 have hrk:=g.rank_at (j + 1) hj
 rw [← hb] at hrk
 have hne:b ≠ order.getD 0 0:=fun e => by
  have:=(g.root_rank b hbr.1 hbr.2).1 e
  omega
 have hkn:=all_kn g (t + 1) (by omega) b hbr.1 hbr.2
 have hup:=(kt_at g (t + 1)).up b hkn hne
 have enext:roundsM (predL preds) order n (t + 1) b.toNat = nextJ preds order n t j:=by
  rw [← idJ_low g t b hbr.1 (j + 1) hj (by omega),idJ_succ g t j hj,hb]
  unfold upI
  rw [if_pos rfl]
 have hnn:nextJ preds order n t j ≠ -1:=by rw [← enext]; have:=hup.1.1; omega
 have hkt:=idJ_kt g t j (by omega)
 have nu:=near_up hkt (preds.getD b.toNat []) (-1) x (g.inn _) (Or.inl rfl) (by rw [hb]; exact hnn)
 have ml:=mix_low g t j (by omega) n (roundsM (predL preds) order n (t + 1) b.toNat) x hup.1.1 hup.1.2.1 (by have:=hup.2; omega) (by have:=(kt_at g (t + 1)).rng _ hup.1.1 hup.1.2.1; omega)
 have e2:(preds.getD b.toNat []).foldl (nearStep (order.getD 0 0) (rankM order) (idJ preds order n t j) n) (-1) = roundsM (predL preds) order n (t + 1) b.toNat:=by
  rw [enext,hb]
  rfl
 rw [e2] at nu
 by_cases hx:x = b
 ·subst hx; exact ⟨fun _ => Or.inl rfl,fun _ => .refl _⟩
 ·refine ⟨fun h => Or.inr (nu.1 (ml.2 (h.cases_ne hx).2)).2,fun h => .step hne (ml.1 (nu.2 ⟨fun h => absurd rfl h,h.resolve_left hx⟩))⟩
theorem Gr.pos_of (g:Gr n preds order) (b:Int) (b0:0 ≤ b) (b1:b < n) (hne:b ≠ order.getD 0 0):∃ j:Nat,j + 1 < n∧b = order.getD (j + 1) 0∧rankM order b.toNat = (j:Int) + 1:=by
 have hm:=List.idxOf_lt_length_of_mem (g.all b b0 b1)
 have hol:=g.olen
 have ho:order.getD (order.idxOf b) 0 = b:=by
  rw [List.getD_eq_getElem?_getD,List.getElem?_eq_getElem hm]
  exact List.getElem_idxOf hm
 have hr:rankM order b.toNat = (order.idxOf b:Nat):=rank_mem b0
 have h0:order.idxOf b ≠ 0:=fun e => hne ((g.root_rank b b0 b1).2 (by rw [hr,e]; rfl))
 obtain ⟨j,hj⟩:∃ j,order.idxOf b = j + 1:=⟨order.idxOf b - 1,by omega⟩
 rw [hj] at ho hr
 exact ⟨j,by omega,ho.symm,by rw [hr]; rfl⟩
theorem idJ_kn (g:Gr n preds order) (t j:Nat) (hj:j < n) (p:Int) (p0:0 ≤ p) (p1:p < n) (h:0 < t ∨ rankM order p.toNat ≤ j):Kn n (order.getD 0 0) (idJ preds order n t j) p:=by
 by_cases hl:rankM order p.toNat ≤ j
 ·have:=all_kn g (t + 1) (by omega) p p0 p1
  exact ⟨p0,p1,by rw [idJ_low g t p p0 j hj hl]; exact this.2.2⟩
 ·have:=all_kn g t (by omega) p p0 p1
  exact ⟨p0,p1,by rw [idJ_late g t p p0 j hj (by omega)]; exact this.2.2⟩
theorem ahead_up (g:Gr n preds order) (t:Nat) (ht:0 < t) (b q x:Int) (b0:0 ≤ b) (b1:b < n) (hq:q ∈ preds.getD b.toNat []) (hr:rankM order q.toNat < rankM order b.toNat) (h:Up (order.getD 0 0) (roundsM (predL preds) order n t) b x) (hx:x ≠ b):Up (order.getD 0 0) (roundsM (predL preds) order n t) q x:=by
 obtain ⟨t,rfl⟩:∃ t',t = t' + 1:=⟨t - 1,by omega⟩
 obtain ⟨j,hj,hb,hrk⟩:=g.pos_of b b0 b1 (h.cases_ne hx).1
 have hqi:=g.inn _ q hq
 have h1:=((char_up g t j hj b x hb).1 h).resolve_left hx q hq (idJ_kn g t j (by omega) q hqi.1 hqi.2 (Or.inr (by omega)))
 exact (mix_low g t j (by omega) n q x hqi.1 hqi.2 (by omega) (by have:=(kt_at g t).rng q hqi.1 hqi.2; omega)).1 h1
theorem fwd_of (g:Gr n preds order) (b:Int) (b0:0 ≤ b) (b1:b < n) (hne:b ≠ order.getD 0 0):∃ q ∈ preds.getD b.toNat [],rankM order q.toNat < rankM order b.toNat:=by
 obtain ⟨j,hj,hb,hrk⟩:=g.pos_of b b0 b1 hne
 obtain ⟨q,hq,h⟩:=g.fwd (j + 1) (by omega) hj
 rw [← hb] at hq
 exact ⟨q,hq,by omega⟩
theorem between (g:Gr n preds order) (s t:Nat) (hs:0 < s) (ht:0 < t) (y x:Int) (hxy:rankM order x.toNat ≤ rankM order y.toNat):∀ (m:Nat) (p:Int),0 ≤ p → p < n → rankM order p.toNat ≤ m → Up (order.getD 0 0) (roundsM (predL preds) order n s) p y → Up (order.getD 0 0) (roundsM (predL preds) order n t) p x → Up (order.getD 0 0) (roundsM (predL preds) order n t) y x
 | m,p,p0,p1,hm,h1,h2 => by
  by_cases hp:y = p
  ·rw [hp]; exact h2
  ·have hne:=(h1.cases_ne hp).1
   have ky:=h1.kn (kt_at g s) (all_kn g s hs p p0 p1)
   have hlt:rankM order y.toNat < rankM order p.toNat:=by
    have h3:=(kt_at g s).up p (all_kn g s hs p p0 p1) hne
    have h4:=(h1.cases_ne hp).2.kn (kt_at g s) h3.1
    have:=h3.2
    omega
   have hxp:x ≠ p:=fun e => by rw [e] at hxy; omega
   obtain ⟨q,hq,hr⟩:=fwd_of g p p0 p1 hne
   have hqi:=g.inn _ q hq
   match m,hm with
   | 0,hm => have:=(kt_at g s).rng p p0 p1; have:=(kt_at g s).rng q hqi.1 hqi.2; omega
   | m + 1,hm => exact between g s t hs ht y x hxy m q hqi.1 hqi.2 (by omega) (ahead_up g s hs p q y p0 p1 hq hr h1 hp) (ahead_up g t ht p q x p0 p1 hq hr h2 hxp)
end
section
variable {n:Nat} {preds:List (List Int)} {order:List Int}
theorem mix_down (g:Gr n preds order) (t j:Nat) (ht:0 < t) (hj:j < n) (x:Int):∀ (m:Nat) (p:Int),0 ≤ p → p < n → rankM order p.toNat ≤ m → rankM order x.toNat ≤ j → Up (order.getD 0 0) (idJ preds order n t j) p x →
  ∃ y,0 ≤ y∧y < (n:Int)∧Up (order.getD 0 0) (roundsM (predL preds) order n t) p y∧rankM order y.toNat ≤ j∧Up (order.getD 0 0) (roundsM (predL preds) order n (t + 1)) y x
 | m,p,p0,p1,hm,hx,h => by
  by_cases hl:rankM order p.toNat ≤ j
  ·exact ⟨p,p0,p1,.refl _,hl,(mix_low g t j hj n p x p0 p1 hl (by have:=(kt_at g t).rng p p0 p1; omega)).1 h⟩
  ·have hpx:x ≠ p:=fun e => by rw [e] at hx; exact hl hx
   have h1:=h.cases_ne hpx
   rw [idJ_late g t p p0 j hj (by omega)] at h1
   have hup:=(kt_at g t).up p (all_kn g t ht p p0 p1) h1.1
   match m,hm with
   | 0,hm => have:=(kt_at g t).rng p p0 p1; have:=(kt_at g t).rng _ hup.1.1 hup.1.2.1; omega
   | m + 1,hm =>
    obtain ⟨y,y0,y1,h2,h3,h4⟩:=mix_down g t j ht hj x m _ hup.1.1 hup.1.2.1 (by have:=hup.2; omega) hx h1.2
    exact ⟨y,y0,y1,.step h1.1 h2,h3,h4⟩
theorem mix_first (g:Gr n preds order) (t j:Nat) (ht:0 < t) (hj:j < n):∀ (m:Nat) (p:Int),0 ≤ p → p < n → rankM order p.toNat ≤ m →
  ∃ y,Up (order.getD 0 0) (roundsM (predL preds) order n t) p y∧rankM order y.toNat ≤ j∧(∀ z,Up (order.getD 0 0) (roundsM (predL preds) order n t) p z → rankM order z.toNat ≤ j → rankM order z.toNat ≤ rankM order y.toNat) ∧
   ∀ x,Up (order.getD 0 0) (roundsM (predL preds) order n (t + 1)) y x → Up (order.getD 0 0) (idJ preds order n t j) p x
 | m,p,p0,p1,hm => by
  by_cases hl:rankM order p.toNat ≤ j
  ·exact ⟨p,.refl _,hl,fun z hz _ => (hz.kn (kt_at g t) (all_kn g t ht p p0 p1)).2,fun x hx => (mix_low g t j hj n p x p0 p1 hl (by have:=(kt_at g t).rng p p0 p1; omega)).2 hx⟩
  ·have hr:p ≠ order.getD 0 0:=fun e => by
    have:=(g.root_rank p p0 p1).1 e
    omega
   have hup:=(kt_at g t).up p (all_kn g t ht p p0 p1) hr
   match m,hm with
   | 0,hm => have:=(kt_at g t).rng p p0 p1; have:=(kt_at g t).rng _ hup.1.1 hup.1.2.1; omega
   | m + 1,hm =>
    obtain ⟨y,h1,h2,h3,h4⟩:=mix_first g t j ht hj m _ hup.1.1 hup.1.2.1 (by have:=hup.2; omega)
    refine ⟨y,.step hr h1,h2,fun z hz hzj => ?_,fun x hx => .step hr ?_⟩
    ·have hzp:z ≠ p:=fun e => by rw [e] at hzj; exact hl hzj
     exact h3 z (hz.cases_ne hzp).2 hzj
    ·rw [idJ_late g t p p0 j hj (by omega)]
     exact h4 x hx
def Mono (n:Nat) (preds:List (List Int)) (order:List Int) (t:Nat):Prop:=∀ v x:Int,0 ≤ v → v < n → Up (order.getD 0 0) (roundsM (predL preds) order n (t + 1)) v x → Up (order.getD 0 0) (roundsM (predL preds) order n t) v x
theorem mono_step (g:Gr n preds order) (t:Nat) (prev:t = 0 ∨ Mono n preds order t):∀ (m:Nat) (v x:Int),0 ≤ v → v < n → rankM order v.toNat ≤ m → Up (order.getD 0 0) (roundsM (predL preds) order n (t + 1 + 1)) v x → Up (order.getD 0 0) (roundsM (predL preds) order n (t + 1)) v x
 | m,v,x,v0,v1,hm,h => by
  by_cases hx:x = v
  ·rw [hx]; exact .refl _
  ·have hr:=(h.cases_ne hx).1
   obtain ⟨j,hj,hb,hrk⟩:=g.pos_of v v0 v1 hr
   have hrg:∀ p ∈ preds.getD v.toNat [],0 ≤ p∧p < (n:Int):=g.inn _
   have hnew:=((char_up g (t + 1) j hj v x hb).1 h).resolve_left hx
   have hkn1:∀ p ∈ preds.getD v.toNat [],Up (order.getD 0 0) (idJ preds order n (t + 1) j) p x:=fun p hp => hnew p hp (idJ_kn g (t + 1) j (by omega) p (hrg p hp).1 (hrg p hp).2 (Or.inl (by omega)))
   have low:∀ p ∈ preds.getD v.toNat [],rankM order p.toNat ≤ j → Up (order.getD 0 0) (roundsM (predL preds) order n (t + 1)) p x:=fun p hp hl => by
    have h1:=(mix_low g (t + 1) j (by omega) n p x (hrg p hp).1 (hrg p hp).2 hl (by have:=(kt_at g t).rng p (hrg p hp).1 (hrg p hp).2; omega)).1 (hkn1 p hp)
    match m,hm with
    | 0,hm => have:=(kt_at g t).rng v v0 v1; omega
    | m + 1,hm => exact mono_step g t prev m p x (hrg p hp).1 (hrg p hp).2 (by omega) h1
   obtain ⟨q,hq,hqr⟩:=fwd_of g v v0 v1 hr
   have hxj:rankM order x.toNat ≤ j:=by
    have h1:=low q hq (by omega)
    have:=h1.kn (kt_at g (t + 1)) (all_kn g (t + 1) (by omega) q (hrg q hq).1 (hrg q hq).2)
    omega
   refine (char_up g t j hj v x hb).2 (Or.inr fun p hp kp => ?_)
   have p0:=(hrg p hp).1
   have p1:=(hrg p hp).2
   by_cases hl:rankM order p.toNat ≤ j
   ·exact (mix_low g t j (by omega) n p x p0 p1 hl (by have:=(kt_at g t).rng p p0 p1; omega)).2 (low p hp hl)
   ·rcases prev with ht | hM
    ·exfalso
     subst ht
     rcases kp.2.2 with e | e
     ·have:=(g.root_rank p p0 p1).1 e
      omega
     ·rw [idJ_late g 0 p p0 j (by omega) (by omega)] at e
      exact e rfl
    ·by_cases ht:t = 0
     ·exfalso
      subst ht
      rcases kp.2.2 with e | e
      ·have:=(g.root_rank p p0 p1).1 e
       omega
      ·rw [idJ_late g 0 p p0 j (by omega) (by omega)] at e
       exact e rfl
     ·obtain ⟨y,y0,y1,h2,h3,h4⟩:=mix_down g (t + 1) j (by omega) (by omega) x n p p0 p1 (by have:=(kt_at g t).rng p p0 p1; omega) hxj (hkn1 p hp)
      have h5:Up (order.getD 0 0) (roundsM (predL preds) order n (t + 1)) y x:=by
       match m,hm with
       | 0,hm => have:=(kt_at g t).rng v v0 v1; omega
       | m + 1,hm => exact mono_step g t (Or.inr hM) m y x y0 y1 (by omega) h4
      have h6:=h2.trans h5
      have h7:=hM p x p0 p1 h6
      obtain ⟨z,h8,h9,h10,h11⟩:=mix_first g t j (by omega) (by omega) n p p0 p1 (by have:=(kt_at g t).rng p p0 p1; omega)
      exact h11 x (between g t (t + 1) (by omega) (by omega) z x (h10 x h7 hxj) n p p0 p1 (by have:=(kt_at g t).rng p p0 p1; omega) h8 h6)
theorem mono_all (g:Gr n preds order):∀ t,Mono n preds order (t + 1)
 | 0 => fun v x v0 v1 h => mono_step g 0 (Or.inl rfl) n v x v0 v1 (by have:=(kt_at g 0).rng v v0 v1; omega) h
 | t + 1 => fun v x v0 v1 h => mono_step g (t + 1) (Or.inr (mono_all g t)) n v x v0 v1 (by have:=(kt_at g 0).rng v v0 v1; omega) h
def high (preds:List (List Int)) (order:List Int) (n t:Nat):Nat:=((List.range n).map fun i => (rankM order (roundsM (predL preds) order n t i).toNat).toNat).sum
theorem rank_down (g:Gr n preds order) (t i:Nat) (hi:i < n):(rankM order (roundsM (predL preds) order n (t + 1 + 1) i).toNat).toNat ≤ (rankM order (roundsM (predL preds) order n (t + 1) i).toNat).toNat∧((rankM order (roundsM (predL preds) order n (t + 1 + 1) i).toNat).toNat = (rankM order (roundsM (predL preds) order n (t + 1) i).toNat).toNat → roundsM (predL preds) order n (t + 1 + 1) i = roundsM (predL preds) order n (t + 1) i):=by
 have v0:(0:Int) ≤ (i:Int):=by omega
 have v1:(i:Int) < (n:Int):=by omega
 by_cases hr:(i:Int) = order.getD 0 0
 ·have e1:=(RI.rounds g (t + 1 + 1)).1.rt
  have e2:=(RI.rounds g (t + 1)).1.rt
  rw [← hr,Int.toNat_natCast] at e1 e2
  rw [e1,e2]
  exact ⟨Nat.le_refl _,fun _ => rfl⟩
 ·have k2:=(kt_at g (t + 1 + 1)).up i (all_kn g (t + 1 + 1) (by omega) i v0 v1) hr
  have k1:=(kt_at g (t + 1)).up i (all_kn g (t + 1) (by omega) i v0 v1) hr
  rw [Int.toNat_natCast] at k1 k2
  have u2:Up (order.getD 0 0) (roundsM (predL preds) order n (t + 1 + 1)) i (roundsM (predL preds) order n (t + 1 + 1) i):=.step hr (by rw [Int.toNat_natCast]; exact .refl _)
  have u1:=mono_all g t i _ v0 v1 u2
  have hne:roundsM (predL preds) order n (t + 1 + 1) i ≠ (i:Int):=fun e => by
   have:=k2.2
   rw [e,Int.toNat_natCast] at this
   omega
  have u0:=(u1.cases_ne hne).2
  rw [Int.toNat_natCast] at u0
  have hle:=u0.kn (kt_at g (t + 1)) k1.1
  have g1:=(kt_at g (t + 1)).rng _ k1.1.1 k1.1.2.1
  have g2:=(kt_at g (t + 1)).rng _ k2.1.1 k2.1.2.1
  refine ⟨by omega,fun e => ?_⟩
  exact g.inj _ _ k2.1.1 k2.1.2.1 k1.1.1 k1.1.2.1 (by omega)
theorem sum_le {α:Type} (f h:α → Nat):∀ (l:List α),(∀ x ∈ l,f x ≤ h x) → (l.map f).sum ≤ (l.map h).sum∧((l.map f).sum = (l.map h).sum → ∀ x ∈ l,f x = h x)
 | [],_ => ⟨Nat.le_refl _,fun _ x hx => by simp at hx⟩
 | y :: r,hl => by
  have ih:=sum_le f h r fun x hx => hl x (List.mem_cons_of_mem _ hx)
  have h1:=hl y List.mem_cons_self
  simp only [List.map_cons,List.sum_cons]
  refine ⟨by omega,fun e x hx => ?_⟩
  rcases List.mem_cons.1 hx with rfl | hx
  ·omega
  ·exact ih.2 (by omega) x hx
theorem high_down (g:Gr n preds order) (t:Nat):high preds order n (t + 1 + 1) ≤ high preds order n (t + 1)∧(high preds order n (t + 1 + 1) = high preds order n (t + 1) → roundsM (predL preds) order n (t + 1 + 1) = roundsM (predL preds) order n (t + 1)):=by
 have h:=sum_le (fun i => (rankM order (roundsM (predL preds) order n (t + 1 + 1) i).toNat).toNat) (fun i => (rankM order (roundsM (predL preds) order n (t + 1) i).toNat).toNat) (List.range n) fun i hi => (rank_down g t i (List.mem_range.1 hi)).1
 refine ⟨h.1,fun e => ?_⟩
 funext i
 by_cases hi:i < n
 ·exact (rank_down g t i hi).2 (h.2 e i (List.mem_range.2 hi))
 ·rw [(RI.rounds g (t + 1 + 1)).1.out i (by omega),(RI.rounds g (t + 1)).1.out i (by omega)]
theorem fix_some (g:Gr n preds order):∀ (m t:Nat),high preds order n (t + 1) ≤ m → ∃ d,d ≤ m∧roundsM (predL preds) order n (t + d + 1 + 1) = roundsM (predL preds) order n (t + d + 1)
 | m,t,h => by
  have hd:=high_down g t
  by_cases e:high preds order n (t + 1 + 1) = high preds order n (t + 1)
  ·exact ⟨0,Nat.zero_le _,hd.2 e⟩
  ·match m,h with
   | 0,h => omega
   | m + 1,h =>
    obtain ⟨d,h1,h2⟩:=fix_some g m (t + 1) (by omega)
    refine ⟨d + 1,by omega,?_⟩
    rw [show t + (d + 1) + 1 = t + 1 + d + 1 by omega]
    exact h2
theorem high_le (g:Gr n preds order) (t:Nat):high preds order n t ≤ n * n:=by
 have key:∀ (l:List Nat),(l.map fun i => (rankM order (roundsM (predL preds) order n t i).toNat).toNat).sum ≤ l.length * n:=by
  intro l
  induction l with
  | nil => simp
  | cons y r ih =>
   simp only [List.map_cons,List.sum_cons,List.length_cons]
   have h1:(rankM order (roundsM (predL preds) order n t y).toNat).toNat ≤ n:=by
    unfold rankM
    have:=List.idxOf_le_length (a:=(((roundsM (predL preds) order n t y).toNat:Nat):Int)) (l:=order)
    rw [g.olen] at this
    omega
   rw [Nat.succ_mul]
   omega
 have:=key (List.range n)
 rw [List.length_range] at this
 exact this
theorem fix_at (g:Gr n preds order):FixAt preds order n (n * n + 1):=by
 obtain ⟨d,h1,h2⟩:=fix_some g (n * n) 0 (high_le g _)
 have e1:=fix_on h2 (n * n - d)
 have e2:=fix_on h2 (n * n - d + 1)
 rw [show 0 + d + 1 + (n * n - d) = n * n + 1 by omega] at e1
 rw [show 0 + d + 1 + (n * n - d + 1) = n * n + 1 + 1 by omega] at e2
 intro i _
 rw [e1,e2]
end
section
variable {n:Nat} {preds:List (List Int)} {order:List Int}
structure Back (n:Nat) (preds:List (List Int)) (root:Int) (R:Int → Int → Prop):Prop where
 back:∀ x v p:Int,0 ≤ v → v < n → R x v → x ≠ v → p ∈ preds.getD v.toNat [] → R x p
 top:∀ x,R x root → x = root
theorem betweenR (g:Gr n preds order) {R:Int → Int → Prop} (hR:Back n preds (order.getD 0 0) R) (s:Nat) (hs:0 < s) (y x:Int) (hxy:rankM order x.toNat ≤ rankM order y.toNat):∀ (m:Nat) (p:Int),0 ≤ p → p < n → rankM order p.toNat ≤ m → Up (order.getD 0 0) (roundsM (predL preds) order n s) p y → R x p → R x y
 | m,p,p0,p1,hm,h1,h2 => by
  by_cases hp:y = p
  ·rw [hp]; exact h2
  ·have hne:=(h1.cases_ne hp).1
   have hlt:rankM order y.toNat < rankM order p.toNat:=by
    have h3:=(kt_at g s).up p (all_kn g s hs p p0 p1) hne
    have h4:=(h1.cases_ne hp).2.kn (kt_at g s) h3.1
    have:=h3.2
    omega
   have hxp:x ≠ p:=fun e => by rw [e] at hxy; omega
   obtain ⟨q,hq,hr⟩:=fwd_of g p p0 p1 hne
   have hqi:=g.inn _ q hq
   match m,hm with
   | 0,hm => have:=(kt_at g s).rng p p0 p1; have:=(kt_at g s).rng q hqi.1 hqi.2; omega
   | m + 1,hm => exact betweenR g hR s hs y x hxy m q hqi.1 hqi.2 (by omega) (ahead_up g s hs p q y p0 p1 hq hr h1 hp) (hR.back x p q p0 p1 h2 hxp hq)
theorem back_up (g:Gr n preds order) {R:Int → Int → Prop} (hR:Back n preds (order.getD 0 0) R):∀ (t m:Nat) (v x:Int),0 ≤ v → v < n → rankM order v.toNat ≤ m → R x v → Up (order.getD 0 0) (roundsM (predL preds) order n (t + 1)) v x
 | t,m,v,x,v0,v1,hm,h => by
  by_cases hx:x = v
  ·rw [hx]; exact .refl _
  ·have hr:v ≠ order.getD 0 0:=fun e => by rw [e] at h; exact hx ((hR.top x h).trans e.symm)
   obtain ⟨j,hj,hb,hrk⟩:=g.pos_of v v0 v1 hr
   have hrg:∀ p ∈ preds.getD v.toNat [],0 ≤ p∧p < (n:Int):=g.inn _
   have low:∀ p:Int,0 ≤ p → p < n → rankM order p.toNat ≤ j → R x p → Up (order.getD 0 0) (roundsM (predL preds) order n (t + 1)) p x:=fun p p0 p1 hl hp => by
    match m,hm with
    | 0,hm => have:=(kt_at g t).rng v v0 v1; omega
    | m + 1,hm => exact back_up g hR t m p x p0 p1 (by omega) hp
   obtain ⟨q,hq,hqr⟩:=fwd_of g v v0 v1 hr
   have hxj:rankM order x.toNat ≤ j:=by
    have h1:=low q (hrg q hq).1 (hrg q hq).2 (by omega) (hR.back x v q v0 v1 h hx hq)
    have:=h1.kn (kt_at g (t + 1)) (all_kn g (t + 1) (by omega) q (hrg q hq).1 (hrg q hq).2)
    omega
   refine (char_up g t j hj v x hb).2 (Or.inr fun p hp kp => ?_)
   have p0:=(hrg p hp).1
   have p1:=(hrg p hp).2
   have hRp:=hR.back x v p v0 v1 h hx hp
   by_cases hl:rankM order p.toNat ≤ j
   ·exact (mix_low g t j (by omega) n p x p0 p1 hl (by have:=(kt_at g t).rng p p0 p1; omega)).2 (low p p0 p1 hl hRp)
   ·match t,kp,low with
    | 0,kp,low =>
     exfalso
     rcases kp.2.2 with e | e
     ·have:=(g.root_rank p p0 p1).1 e
      omega
     ·rw [idJ_late g 0 p p0 j (by omega) (by omega)] at e
      exact e rfl
    | t + 1,kp,low =>
     have h7:=back_up g hR t n p x p0 p1 (by have:=(kt_at g t).rng p p0 p1; omega) hRp
     obtain ⟨z,h8,h9,h10,h11⟩:=mix_first g (t + 1) j (by omega) (by omega) n p p0 p1 (by have:=(kt_at g t).rng p p0 p1; omega)
     have hz:=h8.kn (kt_at g (t + 1)) (all_kn g (t + 1) (by omega) p p0 p1)
     exact h11 x (low z hz.1.1 hz.1.2.1 h9 (betweenR g hR (t + 1) (by omega) z x (h10 x h7 hxj) n p p0 p1 (by have:=(kt_at g t).rng p p0 p1; omega) h8 hRp))
termination_by t m => (t,m)
theorem idJ_fix (g:Gr n preds order) {K:Nat} (hf:FixAt preds order n K) (j:Nat) (hj:j < n):∀ v:Int,0 ≤ v → v < n → idJ preds order n K j v.toNat = roundsM (predL preds) order n K v.toNat:=fun v v0 v1 => by
 by_cases hl:rankM order v.toNat ≤ j
 ·rw [idJ_low g K v v0 j hj hl,fix_all g hf]
 ·exact idJ_late g K v v0 j hj (by omega)
theorem up_congr {root:Int} {f h:Nat → Int} {P:Int → Prop} (hP:∀ v,P v → v ≠ root → P (f v.toNat)) (e:∀ v,P v → f v.toNat = h v.toNat) {v x:Int} (hu:Up root f v x):P v → Up root h v x:=by
 induction hu with
 | refl => exact fun _ => .refl _
 | step hne k ih =>
  intro hv
  refine .step hne ?_
  rw [← e _ hv]
  exact ih (hP _ hv hne)
theorem fix_back (g:Gr n preds order) {K:Nat} (hK:0 < K) (hf:FixAt preds order n K):Back n preds (order.getD 0 0) (fun x v => Up (order.getD 0 0) (roundsM (predL preds) order n K) v x):=by
 refine ⟨fun x v p v0 v1 h hx hp => ?_,fun x h => ?_⟩
 ·obtain ⟨j,hj,hb,hrk⟩:=g.pos_of v v0 v1 (h.cases_ne hx).1
  have hpi:=g.inn _ p hp
  rw [← fix_all g hf] at h
  have h1:=((char_up g K j hj v x hb).1 h).resolve_left hx p hp (idJ_kn g K j (by omega) p hpi.1 hpi.2 (Or.inl hK))
  refine up_congr (P:=fun v => 0 ≤ v∧v < (n:Int)) (fun v hv hne => ?_) (fun v hv => idJ_fix g hf j (by omega) v hv.1 hv.2) h1 hpi
  rw [idJ_fix g hf j (by omega) v hv.1 hv.2]
  have:=((kt_at g K).up v (all_kn g K hK v hv.1 hv.2) hne).1
  exact ⟨this.1,this.2.1⟩
 ·by_cases e:x = order.getD 0 0
  ·exact e
  ·exact absurd rfl (h.cases_ne e).1
theorem dom_iff {root:Int} {rank idom:Nat → Int} (hk:KT n root rank idom) (hr:idom root.toNat = -1) {a:Int} (ha:0 ≤ a):∀ (k:Nat) (b:Int),Kn n root idom b → rank b.toNat + 1 < k → (domM idom k a b = true ↔ Up root idom b a)
 | 0,b,hb,h => by have:=hk.rng b hb.1 hb.2.1; omega
 | k + 1,b,hb,h => by
  have h0:=hb.1
  have hrb:=hk.rng b hb.1 hb.2.1
  simp only [domM]
  by_cases e:b = a
  ·rw [if_pos (Or.inr e)]
   simp [e]
   exact .refl _
  ·rw [if_neg (by omega)]
   by_cases er:b = root
   ·obtain ⟨k,rfl⟩:∃ k',k = k' + 1:=⟨k - 1,by omega⟩
    rw [er,hr]
    have:domM idom (k + 1) a (-1) = false:=by
     simp only [domM]
     simp
     omega
    rw [this]
    refine ⟨fun h => by simp at h,fun h => absurd rfl (h.cases_ne (fun e2 => e (by rw [e2,er]))).1⟩
   ·have hup:=hk.up b hb er
    rw [dom_iff hk hr ha k _ hup.1 (by have:=hup.2; omega)]
    exact ⟨fun h => .step er h,fun h => (h.cases_ne (fun e2 => e e2.symm)).2⟩
end
def FwdL (sc:Nat → List Nat) (q:Nat → Prop):List Nat → Prop
 | [] => True
 | x :: r => (q x ∨ ∃ p ∈ r,x ∈ sc p)∧FwdL sc q r
theorem FwdL.append {sc:Nat → List Nat} {q q1:Nat → Prop} {l2:List Nat} (h2:FwdL sc q l2):∀ (l1:List Nat),(∀ x,q1 x → q x ∨ ∃ p ∈ l2,x ∈ sc p) → FwdL sc q1 l1 → FwdL sc q (l1 ++ l2)
 | [],_,_ => h2
 | x :: r,hq,h => by
  refine ⟨?_,FwdL.append h2 r hq h.2⟩
  rcases h.1 with h1 | ⟨p,hp,h1⟩
  ·rcases hq x h1 with h3 | ⟨p,hp,h3⟩
   ·exact Or.inl h3
   ·exact Or.inr ⟨p,List.mem_append_right _ hp,h3⟩
  ·exact Or.inr ⟨p,List.mem_append_left _ hp,h1⟩
theorem FwdL.at {sc:Nat → List Nat} {q:Nat → Prop}:∀ {l:List Nat},FwdL sc q l → ∀ m (h:m < l.length),q l[m] ∨ ∃ m',∃ h':m' < l.length,m < m'∧l[m] ∈ sc l[m']
 | x :: r,h,0,_ => by
  rcases h.1 with h1 | ⟨p,hp,h1⟩
  ·exact Or.inl h1
  ·obtain ⟨i,hi,rfl⟩:=List.getElem_of_mem hp
   exact Or.inr ⟨i + 1,by simpa using hi,by omega,by simpa using h1⟩
 | x :: r,h,m + 1,hm => by
  rcases FwdL.at h.2 m (by simpa using hm) with h1 | ⟨m',h',h1,h2⟩
  ·exact Or.inl (by simpa using h1)
  ·exact Or.inr ⟨m' + 1,by simpa using h',by omega,by simpa using h2⟩
def natI (x:Nat):Int:=(x:Int)
structure Told (n:Nat) (sc:Nat → List Nat) (q:Nat → Prop) (s s':(Nat → Bool) × List Int) (new:List Nat):Prop where
 out:s'.2 = s.2 ++ new.map natI
 beg:∀ x,s'.1 x = true ↔ s.1 x = true ∨ x ∈ new
 fresh:∀ x ∈ new,s.1 x = false
 nod:new.Nodup
 lt:∀ x ∈ new,x < n
 shut:∀ x ∈ new,∀ t ∈ sc x,s'.1 t = true
 fwd:FwdL sc q new
theorem Told.nil {n:Nat} {sc:Nat → List Nat} {q:Nat → Prop} (s:(Nat → Bool) × List Int):Told n sc q s s [] :=
 ⟨by simp,by simp,by simp,by simp,by simp,by simp,trivial⟩
theorem Told.trans {n:Nat} {sc:Nat → List Nat} {q q1:Nat → Prop} {s s1 s2:(Nat → Bool) × List Int} {l1 l2:List Nat} (h1:Told n sc q1 s s1 l1) (h2:Told n sc q s1 s2 l2) (hq:∀ x,q1 x → q x):Told n sc q s s2 (l1 ++ l2):=by
 refine ⟨by rw [h2.out,h1.out]; simp,fun x => by rw [h2.beg,h1.beg,List.mem_append,or_assoc],fun x hx => ?_,?_,fun x hx => ?_,fun x hx t ht => ?_,FwdL.append h2.fwd l1 (fun x h => Or.inl (hq x h)) h1.fwd⟩
 ·rcases List.mem_append.1 hx with h | h
  ·exact h1.fresh x h
  ·have:=h2.fresh x h
   cases e:s.1 x
   ·rfl
   ·rw [(h1.beg x).2 (Or.inl e)] at this; cases this
 ·refine List.nodup_append.2 ⟨h1.nod,h2.nod,fun a ha b hb e => ?_⟩
  subst e
  have:=h2.fresh a hb
  rw [(h1.beg a).2 (Or.inr ha)] at this
  cases this
 ·rcases List.mem_append.1 hx with h | h
  ·exact h1.lt x h
  ·exact h2.lt x h
 ·rcases List.mem_append.1 hx with h | h
  ·exact (h2.beg t).2 (Or.inl (h1.shut x h t ht))
  ·exact h2.shut x h t ht
theorem fold_told {n:Nat} (sc:Nat → List Nat) (hsc:∀ b t,t ∈ sc b → t < n) (k b:Nat) (hv:∀ t s,t < n → s.1 t = false → unb n s.1 ≤ k → ∃ new,Told n sc (fun x => x = t) s (visitM sc k t s) new∧t ∈ new) :
  ∀ (l:List Nat) (s:(Nat → Bool) × List Int),(∀ t ∈ l,t ∈ sc b) → unb n s.1 ≤ k → ∃ new,Told n sc (fun x => x ∈ sc b) s (l.foldl (stepV sc k) s) new∧∀ t ∈ l,(l.foldl (stepV sc k) s).1 t = true
 | [],s,_,_ => ⟨[],Told.nil s,by simp⟩
 | t :: r,s,hl,hu => by
  rw [List.foldl_cons]
  have htb:=hl t List.mem_cons_self
  by_cases e:s.1 t = true
  ·have e1:stepV sc k s t = s:=by unfold stepV; rw [if_pos e]
   rw [e1]
   obtain ⟨new,h,hb⟩:=fold_told sc hsc k b hv r s (fun x hx => hl x (List.mem_cons_of_mem _ hx)) hu
   refine ⟨new,h,fun x hx => ?_⟩
   rcases List.mem_cons.1 hx with rfl | hx
   ·exact (h.beg _).2 (Or.inl e)
   ·exact hb x hx
  ·have e0:s.1 t = false:=by simpa using e
   have e1:stepV sc k s t = visitM sc k t s:=by unfold stepV; rw [if_neg e]
   rw [e1]
   obtain ⟨n1,h1,ht1⟩:=hv t s (hsc b t htb) e0 hu
   obtain ⟨n2,h2,hb⟩:=fold_told sc hsc k b hv r (visitM sc k t s) (fun x hx => hl x (List.mem_cons_of_mem _ hx)) (Nat.le_trans (unb_mono fun i hi => (h1.beg i).2 (Or.inl hi)) hu)
   refine ⟨n1 ++ n2,h1.trans h2 (fun x hx => by rw [hx]; exact htb),fun x hx => ?_⟩
   rcases List.mem_cons.1 hx with rfl | hx
   ·exact (h2.beg _).2 (Or.inl ((h1.beg _).2 (Or.inr ht1)))
   ·exact hb x hx
theorem visit_told {n:Nat} (sc:Nat → List Nat) (hsc:∀ b t,t ∈ sc b → t < n):∀ (k b:Nat) (s:(Nat → Bool) × List Int),b < n → s.1 b = false → unb n s.1 ≤ k → ∃ new,Told n sc (fun x => x = b) s (visitM sc k b s) new∧b ∈ new
 | 0,b,s,hb,h,hu => by have:=unb_pos hb h; omega
 | k + 1,b,s,hb,h,hu => by
  have h2:=unb_up hb h
  obtain ⟨new,ht,hall⟩:=fold_told sc hsc k b (fun t s => visit_told sc hsc k t s) (sc b) (upB s.1 b true,s.2) (fun _ h => h) (by show unb n (upB s.1 b true) ≤ k; omega)
  rw [visitM_succ]
  generalize (sc b).foldl (stepV sc k) (upB s.1 b true,s.2) = r at *
  have hbn:b ∉ new:=fun hm => by
   have:=ht.fresh b hm
   simp [upB] at this
  have hbeg:∀ x,r.1 x = true ↔ s.1 x = true ∨ x ∈ new ++ [b]:=fun x => by
   rw [ht.beg x,List.mem_append,List.mem_singleton]
   show upB s.1 b true x = true ∨ x ∈ new ↔ _
   unfold upB
   by_cases e:x = b
   ·simp [e]
   ·simp [e]
  refine ⟨new ++ [b],⟨?_,hbeg,fun x hx => ?_,?_,fun x hx => ?_,fun x hx t htx => ?_,?_⟩,by simp⟩
  ·show r.2 ++ [(b:Int)] = _
   rw [ht.out]
   simp [natI]
  ·rcases List.mem_append.1 hx with hx | hx
   ·have:=ht.fresh x hx
    simp only [upB] at this
    by_cases e:x = b
    ·rw [if_pos e] at this; cases this
    ·rw [if_neg e] at this; exact this
   ·rw [List.mem_singleton.1 hx]; exact h
  ·refine List.nodup_append.2 ⟨ht.nod,by simp,fun a ha c hc e => ?_⟩
   rw [List.mem_singleton.1 hc] at e
   rw [e] at ha
   exact hbn ha
  ·rcases List.mem_append.1 hx with hx | hx
   ·exact ht.lt x hx
   ·rw [List.mem_singleton.1 hx]; exact hb
  ·show r.1 t = true
   rcases List.mem_append.1 hx with hx | hx
   ·exact ht.shut x hx t htx
   ·rw [List.mem_singleton.1 hx] at htx
    exact hall t htx
  ·exact FwdL.append (q:=fun x => x = b) (l2:=[b]) ⟨Or.inl rfl,trivial⟩ new (fun x hx => Or.inr ⟨b,by simp,hx⟩) ht.fwd
inductive Reach (sc:Nat → List Nat):Nat → Prop
 | zero:Reach sc 0
 | step {b t:Nat} (h:Reach sc b) (ht:t ∈ sc b):Reach sc t
theorem post_told (bs:List Blk) (hpos:0 < bs.length) (hsc:∀ b t,t ∈ succM bs b → t < bs.length):∃ new:List Nat,postM bs = new.map natI∧new.Nodup∧(∀ x ∈ new,x < bs.length)∧0 ∈ new∧(∀ x ∈ new,∀ t ∈ succM bs x,t ∈ new)∧FwdL (succM bs) (fun x => x = 0) new:=by
 obtain ⟨new,h,h0⟩:=visit_told (succM bs) hsc bs.length 0 (fun _ => false,[]) hpos rfl (unb_le _ _)
 refine ⟨new,?_,h.nod,h.lt,h0,fun x hx t ht => ?_,h.fwd⟩
 ·unfold postM
  rw [h.out]
  simp
 ·have:=(h.beg t).1 (h.shut x hx t ht)
  simpa using this
theorem nodup_sub:∀ {l m:List Nat},l.Nodup → (∀ x ∈ l,x ∈ m) → l.length ≤ m.length
 | [],_,_,_ => Nat.zero_le _
 | x :: r,m,hn,hs => by
  have hx:=hs x List.mem_cons_self
  have hn':=List.nodup_cons.1 hn
  have h:=nodup_sub (l:=r) (m:=m.erase x) hn'.2 fun y hy => (List.mem_erase_of_ne (fun e => hn'.1 (by rw [← e]; exact hy))).2 (hs y (List.mem_cons_of_mem _ hy))
  rw [List.length_erase_of_mem hx] at h
  have:=List.length_pos_of_mem hx
  simp only [List.length_cons]
  omega
theorem nodup_le {n:Nat} {l:List Nat} (hn:l.Nodup) (h:∀ x ∈ l,x < n):l.length ≤ n:=by
 have:=nodup_sub hn (m:=List.range n) fun x hx => List.mem_range.2 (h x hx)
 simpa using this
theorem all_of_full {n:Nat} {l:List Nat} (hn:l.Nodup) (h:∀ x ∈ l,x < n) (hl:n ≤ l.length) (x:Nat) (hx:x < n):x ∈ l:=by
 by_cases e:x ∈ l
 ·exact e
 ·have:=nodup_le (n:=n) (l:=x :: l) (List.nodup_cons.2 ⟨e,hn⟩) fun y hy => by
   rcases List.mem_cons.1 hy with rfl | hy
   ·exact hx
   ·exact h y hy
  simp at this
  omega
theorem fwd_reach {sc:Nat → List Nat} {l:List Nat} (h:FwdL sc (fun x => x = 0) l):∀ (d m:Nat) (hm:m < l.length),l.length ≤ m + d → Reach sc l[m]
 | 0,m,hm,hd => by omega
 | d + 1,m,hm,hd => by
  rcases h.at m hm with h1 | ⟨m',h',h1,h2⟩
  ·rw [h1]; exact .zero
  ·exact .step (fwd_reach h d m' h' (by omega)) h2
theorem order_len_le (bs:List Blk) (hpos:0 < bs.length) (hsc:∀ b t,t ∈ succM bs b → t < bs.length):(orderM bs).length ≤ bs.length:=by
 obtain ⟨new,h1,h2,h3,_⟩:=post_told bs hpos hsc
 unfold orderM
 rw [h1]
 simpa using nodup_le h2 h3
theorem order_full (bs:List Blk) (hpos:0 < bs.length) (hsc:∀ b t,t ∈ succM bs b → t < bs.length):bs.length ≤ (orderM bs).length ↔ ∀ b,b < bs.length → Reach (succM bs) b:=by
 obtain ⟨new,h1,h2,h3,h4,h5,h6⟩:=post_told bs hpos hsc
 have hl:(orderM bs).length = new.length:=by unfold orderM; rw [h1]; simp
 rw [hl]
 constructor
 ·intro h b hb
  obtain ⟨m,hm,rfl⟩:=List.getElem_of_mem (all_of_full h2 h3 h b hb)
  exact fwd_reach h6 new.length m hm (by omega)
 ·intro h
  have hin:∀ b,Reach (succM bs) b → b ∈ new:=fun b hb => by
   induction hb with
   | zero => exact h4
   | step _ ht ih => exact h5 _ ih _ ht
  have hs:=nodup_sub (l:=List.range bs.length) (m:=new) List.nodup_range fun x hx => hin x (h x (List.mem_range.1 hx))
  simpa using hs
theorem mem_pairs {bs:List Blk} {p t:Nat}:(p,t) ∈ pairsM bs ↔ p < bs.length∧t ∈ succM bs p:=by
 unfold pairsM pairsUpto
 simp only [List.mem_flatMap,List.mem_range,List.mem_map,Prod.mk.injEq]
 constructor
 ·rintro ⟨b,hb,t',ht',rfl,rfl⟩; exact ⟨hb,ht'⟩
 ·rintro ⟨h1,h2⟩; exact ⟨p,h1,t,h2,rfl,rfl⟩
theorem mem_preds {bs:List Blk} {t:Nat} {p:Int} (ht:t < bs.length):p ∈ (predsL bs).getD t [] ↔ 0 ≤ p∧p < bs.length∧t ∈ succM bs p.toNat:=by
 unfold predsL
 rw [List.getD_eq_getElem?_getD,List.getElem?_eq_getElem (by simpa using ht)]
 simp only [List.getElem_map,List.getElem_range,Option.getD_some,intoM,List.mem_map,List.mem_filter,beq_iff_eq]
 constructor
 ·rintro ⟨⟨a,b⟩,⟨h1,h2⟩,rfl⟩
  simp only at h2
  subst h2
  have:=mem_pairs.1 h1
  exact ⟨by simp,by simp; exact this.1,by simpa using this.2⟩
 ·rintro ⟨h1,h2,h3⟩
  refine ⟨(p.toNat,t),⟨mem_pairs.2 ⟨by omega,h3⟩,rfl⟩,by simp; omega⟩
theorem natI_inj:∀ {a b:Nat},natI a = natI b → a = b:=fun h => by unfold natI at h; omega
theorem gr_of (bs:List Blk) (hpos:0 < bs.length) (hsc:∀ b t,t ∈ succM bs b → t < bs.length) (hlen:bs.length ≤ (orderM bs).length):Gr bs.length (predsL bs) (orderM bs):=by
 obtain ⟨new,h1,h2,h3,h4,h5,h6⟩:=post_told bs hpos hsc
 have ho:orderM bs = (new.map natI).reverse:=by unfold orderM; rw [h1]
 have hl:new.length = bs.length:=by
  have:=nodup_le h2 h3
  rw [ho] at hlen
  simp at hlen
  omega
 have hall:=all_of_full h2 h3 (by omega)
 have hnod:(new.map natI).Nodup:=by
  refine List.Pairwise.map natI (fun a b h e => h (natI_inj e)) h2
 have holen:(orderM bs).length = bs.length:=by rw [ho]; simpa using hl
 refine ⟨hpos,by unfold predsL; simp,holen,by rw [ho]; exact (List.reverse_perm _).symm.nodup_iff.1 hnod,fun x hx => ?_,fun a a0 a1 => ?_,preds_inn bs,fun i i0 i1 => ?_⟩
 ·rw [ho,List.mem_reverse] at hx
  obtain ⟨y,hy,rfl⟩:=List.mem_map.1 hx
  have:=h3 y hy
  unfold natI
  omega
 ·rw [ho,List.mem_reverse]
  exact List.mem_map.2 ⟨a.toNat,hall _ (by omega),by unfold natI; omega⟩
 ·have hidx:∀ j (hj:j < new.length),rankM (orderM bs) new[j] = ((new.length - 1 - j:Nat):Int):=fun j hj => by
   unfold rankM
   have hnr:((new.map natI).reverse).Nodup:=(List.reverse_perm _).symm.nodup_iff.1 hnod
   have hj2:new.length - 1 - j < ((new.map natI).reverse).length:=by simp; omega
   have e:((new.map natI).reverse)[new.length - 1 - j] = ((new[j]:Nat):Int):=by
    rw [List.getElem_reverse]
    simp only [List.getElem_map,List.length_map,natI]
    congr 2
    omega
   rw [ho,← e,hnr.idxOf_getElem _ hj2]
  have hm:new.length - 1 - i < new.length:=by omega
  have hoi:(orderM bs).getD i 0 = ((new[new.length - 1 - i]:Nat):Int):=by
   rw [List.getD_eq_getElem?_getD,List.getElem?_eq_getElem (by omega)]
   simp only [Option.getD_some]
   have:(orderM bs)[i]'(by omega) = ((new.map natI).reverse)[i]'(by simp; omega):=by congr 1
   rw [this,List.getElem_reverse]
   simp [natI]
  rw [hoi,Int.toNat_natCast]
  have hxl:=h3 _ (List.getElem_mem hm)
  rcases h6.at (new.length - 1 - i) hm with hx | ⟨m',h',hlt,hs⟩
  ·exfalso
   obtain ⟨z,hz,e0⟩:=List.getElem_of_mem h4
   have hlast:z = new.length - 1:=by
    rcases h6.at z hz with _ | ⟨m',h',hlt,hs⟩
    ·rcases Nat.lt_or_ge z (new.length - 1) with hlt | hge
     ·exfalso
      have key:∀ (l:List Nat),FwdL (succM bs) (fun x => x = 0) l → l ≠ [] → l.Nodup → ∃ h:l.length - 1 < l.length,l[l.length - 1] = 0:=by
       intro l hf hne hn
       have hl1:l.length - 1 < l.length:=by
        have:=List.length_pos_iff.2 hne
        omega
       refine ⟨hl1,?_⟩
       rcases hf.at (l.length - 1) hl1 with h | ⟨m',h',hlt,_⟩
       ·exact h
       ·omega
      obtain ⟨hk,hk0⟩:=key new h6 (by intro e; rw [e] at hz; simp at hz) h2
      have:=(List.getElem_inj h2).1 (e0.trans hk0.symm)
      omega
     ·omega
    ·exfalso
     have key2:∃ h:new.length - 1 < new.length,new[new.length - 1] = 0:=by
      refine ⟨by omega,?_⟩
      rcases h6.at (new.length - 1) (by omega) with h | ⟨m2,h2',hlt2,_⟩
      ·exact h
      ·omega
     obtain ⟨hk,hk0⟩:=key2
     have:=(List.getElem_inj h2).1 (e0.trans hk0.symm)
     omega
   have hx':new[new.length - 1 - i] = 0:=hx
   have:=(List.getElem_inj h2).1 (hx'.trans e0.symm)
   omega
  ·refine ⟨((new[m']:Nat):Int),(mem_preds hxl).2 ⟨by simp,by have:=h3 _ (List.getElem_mem h'); omega,by simpa using hs⟩,?_⟩
   rw [Int.toNat_natCast,hidx m' h']
   omega
theorem order_first (bs:List Blk) (hpos:0 < bs.length) (hsc:∀ b t,t ∈ succM bs b → t < bs.length):(orderM bs).getD 0 0 = 0:=by
 obtain ⟨new,h1,h2,h3,h4,h5,h6⟩:=post_told bs hpos hsc
 have hl:0 < new.length:=List.length_pos_iff.2 (by intro e; rw [e] at h4; simp at h4)
 have hlast:new[new.length - 1]'(by omega) = 0:=by
  rcases h6.at (new.length - 1) (by omega) with h | ⟨m2,h2',hlt2,_⟩
  ·exact h
  ·omega
 have ho:orderM bs = (new.map natI).reverse:=by unfold orderM; rw [h1]
 rw [ho,List.getD_eq_getElem?_getD,List.getElem?_eq_getElem (by simpa using hl),Option.getD_some,List.getElem_reverse]
 simp [natI,hlast]
structure ShapeIn (f:Fn) (m0 m1:Int):Prop where
 mach:machErr m0 m1 = 0
 pos:0 < f.blocks.length
 nb:f.blocks.length ≤ 16
 nv:f.values.length ≤ 160
 fits:∀ b ∈ f.blocks,blkFits b = true
 cls:∀ c ∈ f.values,isClassB c = true
 first:firstParams f = 0
 ins:∀ b ∈ f.blocks,∀ x ∈ b.instrs,instrErr f.values m0 m1 x = 0
 two:∀ b ∈ f.blocks,1 < b.edges.length → 0 < b.instrs.length
 edg:∀ b ∈ f.blocks,∀ e ∈ b.edges,edgeErr f.values f.blocks e = 0
 mks:marks f.values.length (fun _ => false) (allM f.blocks) = 0
 all:f.values.length ≤ (allM f.blocks).length
theorem shape_in {f:Fn} {m0 m1:Int} (h:shapeErr f m0 m1 = 0):ShapeIn f m0 m1:=by
 unfold shapeErr at h
 split at h
 ·contradiction
 ·rename_i hm
  split at h
  ·cases h
  ·rename_i hs
   split at h
   ·cases h
   ·rename_i hc
    split at h
    ·cases h
    ·rename_i hf
     split at h
     ·contradiction
     ·rename_i hb
      unfold madeErr at h
      split at h
      ·rename_i hk
       split at h
       ·cases h
       ·rename_i hl
        simp only [Bool.not_eq_false] at hs hc
        unfold sizesB at hs
        split at hs
        ·cases hs
        ·have hb':=firstE_zero _ _ (by simpa using hb)
         refine ⟨by simpa using hm,by omega,by omega,by omega,sizesGo_fits _ _ hs,fun c hcc => List.all_eq_true.1 hc c hcc,by omega,fun b hbb x hx => ?_,fun b hbb h1 => ?_,fun b hbb e he => ?_,hk,by omega⟩
         all_goals (have h2:=hb' b hbb; unfold blockErr at h2)
         ·split at h2
          ·contradiction
          ·rename_i h3
           exact firstE_zero _ _ (by simpa using h3) x hx
         ·split at h2
          ·contradiction
          ·split at h2
           ·cases h2
           ·omega
         ·split at h2
          ·contradiction
          ·split at h2
           ·cases h2
           ·exact firstE_zero _ _ h2 e he
      ·contradiction
theorem instrErr_val {values:List Int} {m0 m1:Int} {x:Ins} (h:instrErr values m0 m1 x = 0):∀ o ∈ x.operands,isValueB values.length o.value = true:=fun o ho => by
 unfold instrErr at h
 split at h
 ·cases h
 ·split at h
  ·contradiction
  ·rename_i h1
   have h2:=firstE_zero _ _ (by simpa using h1) o ho
   unfold oprErr at h2
   split at h2
   ·cases h2
   ·split at h2
    ·cases h2
    ·split at h2
     ·cases h2
     ·rename_i h3
      simpa using h3
theorem argsErr_val {values:List Int}:∀ (a p:List Int),a.length = p.length → argsErr values a p = 0 → ∀ v ∈ a,isValueB values.length v = true
 | [],_,_,_,v,hv => by cases hv
 | a :: r,[],hl,_,v,hv => by simp at hl
 | a :: r,p :: q,hl,h,v,hv => by
  simp only [argsErr] at h
  split at h
  ·cases h
  ·rename_i h1
   split at h
   ·cases h
   ·rcases List.mem_cons.1 hv with rfl | hv
    ·simpa using h1
    ·exact argsErr_val r q (by simpa using hl) h v hv
theorem edgeErr_val {values:List Int} {bs:List Blk} {e:Edg} (h:edgeErr values bs e = 0):0 < e.block∧e.block < (bs.length:Int)∧∀ v ∈ e.args,isValueB values.length v = true:=by
 unfold edgeErr at h
 split at h
 ·cases h
 ·refine ⟨by omega,by omega,?_⟩
  split at h
  ·cases h
  ·split at h
   ·rename_i h3
    exact argsErr_val _ _ h3 h
   ·cases h
theorem marks_val (n:Nat):∀ (l:List Int) (md:Nat → Bool),marks n md l = 0 → ∀ v ∈ l,isValueB n v = true
 | [],_,_,v,hv => by cases hv
 | a :: r,md,h,v,hv => by
  simp only [marks] at h
  split at h
  ·rename_i h1
   rcases List.mem_cons.1 hv with rfl | hv
   ·unfold markE at h1
    split at h1
    ·cases h1
    ·rename_i h2
     simpa using h2
   ·exact marks_val n r _ h v hv
  ·contradiction
theorem marks_free (n:Nat):∀ (l:List Int) (md:Nat → Bool),marks n md l = 0 → (∀ v ∈ l,md v.toNat = false)∧l.Nodup
 | [],_,_ => ⟨fun v hv => (by cases hv),List.nodup_nil⟩
 | a :: r,md,h => by
  have hv:=marks_val n (a :: r) md h
  simp only [marks] at h
  split at h
  ·rename_i h1
   obtain ⟨h2,h3⟩:=marks_free n r _ h
   have ha:md a.toNat = false:=by
    unfold markE at h1
    split at h1
    ·cases h1
    ·split at h1
     ·cases h1
     ·rename_i h4
      simpa using h4
   refine ⟨fun v hm => ?_,List.nodup_cons.2 ⟨fun hm => ?_,h3⟩⟩
   ·rcases List.mem_cons.1 hm with rfl | hm
    ·exact ha
    ·have:=h2 v hm
     unfold markS at this
     split at this
     ·cases this
     ·exact this
   ·have:=h2 a hm
    unfold markS at this
    simp at this
  ·contradiction
theorem isValue_bd {n:Nat} {v:Int} (h:isValueB n v = true):0 ≤ v∧v < (n:Int):=by simpa [isValueB] using h
theorem mem_all {bs:List Blk} {b:Blk} (hb:b ∈ bs) {v:Int} (hv:v ∈ makersOf b):v ∈ allM bs:=List.mem_flatMap.2 ⟨b,hb,hv⟩
theorem flowIn_all {f:Fn} {m0 m1:Int} (h:shapeErr f m0 m1 = 0):FlowIn f (f.blocks.length * f.blocks.length + 1):=by
 have S:=shape_in h
 have hr:∀ b ∈ f.blocks,∀ e ∈ b.edges,0 ≤ e.block∧e.block < (f.blocks.length:Int):=fun b hb e he => by
  have:=edgeErr_val (S.edg b hb e he)
  omega
 have hsuc:=succ_lt hr
 refine ⟨S.pos,by have:=S.nb; omega,by have:=S.nv; omega,?_,hr,hsuc,fun b hb => ⟨fun v hv => ?_,fun x hx o ho _ => isValue_bd (instrErr_val (S.ins b hb x hx) o ho)⟩,fun b hb => ⟨fun x hx o ho _ => isValue_bd (instrErr_val (S.ins b hb x hx) o ho),fun e he v hv => isValue_bd ((edgeErr_val (S.edg b hb e he)).2.2 v hv)⟩,fun hl => ?_⟩
 ·have key:∀ k,k ≤ f.blocks.length → (pairsUpto f.blocks k).length ≤ 3 * k:=fun k hk => by
   induction k with
   | zero => simp [pairsUpto]
   | succ k ih =>
    have h1:=ih (by omega)
    unfold pairsUpto at h1 ⊢
    rw [List.range_succ,List.flatMap_append,List.length_append]
    have h2:(succM f.blocks k).length ≤ 3:=by
     unfold succM
     rw [List.length_map,List.getD_eq_getElem?_getD,List.getElem?_eq_getElem (by omega)]
     have:=S.fits _ (List.getElem_mem (show k < f.blocks.length by omega))
     simp only [blkFits,Bool.and_eq_true,decide_eq_true_eq] at this
     exact this.1.2.2
    have h3:([k].flatMap fun b => (succM f.blocks b).map fun t => (b,t)).length = (succM f.blocks k).length:=by simp
    rw [h3]
    omega
  have:=key f.blocks.length (Nat.le_refl _)
  have:=S.nb
  unfold pairsM
  omega
 ·exact isValue_bd (marks_val _ _ _ S.mks v (mem_all hb (List.mem_append_left _ hv)))
 ·have g:=gr_of f.blocks S.pos hsuc hl
  exact ⟨g,fix_at g⟩
theorem spotOf_go (v:Nat) (sp:Spot):∀ (L:List (Int × Spot)) (s:Spot),((v:Int),sp) ∈ L → (L.map (·.1)).Nodup → L.foldl (fun s p => if p.1 = (v:Int) then p.2 else s) s = sp
 | [],_,h,_ => by cases h
 | p :: r,s,h,hn => by
  simp only [List.map_cons,List.nodup_cons] at hn
  rw [List.foldl_cons]
  rcases List.mem_cons.1 h with h | h
  ·rw [← h,if_pos rfl]
   have keep:∀ (R:List (Int × Spot)) (s:Spot),(v:Int) ∉ R.map (·.1) → R.foldl (fun s p => if p.1 = (v:Int) then p.2 else s) s = s:=fun R => by
    induction R with
    | nil => intro s _; rfl
    | cons q R ih =>
     intro s hq
     simp only [List.map_cons,List.mem_cons,not_or] at hq
     rw [List.foldl_cons,if_neg (fun e => hq.1 e.symm)]
     exact ih s hq.2
   exact keep r sp (by rw [← h] at hn; exact hn.1)
  ·exact spotOf_go v sp r _ h hn.2
theorem range_flat {α β:Type} (bs:List α) (d:α) (g:α → List β):(List.range bs.length).flatMap (fun b => g (bs.getD b d)) = bs.flatMap g:=by
 have e:bs = (List.range bs.length).map fun b => bs.getD b d:=by
  apply List.ext_getElem
  ·simp
  ·intro i h1 h2
   simp [List.getD,List.getElem?_eq_getElem h1]
 conv => rhs; rw [e]
 rw [List.flatMap_map]
theorem sp_vals (bs:List Blk):(spU bs bs.length).map (·.1) = allM bs:=by
 have hb:∀ (b:Nat) (x:Blk),(blkSp b x).map (·.1) = makersOf x:=fun b x => by
  unfold blkSp parSp makersOf insSpU insM
  rw [List.map_append,List.map_map,← range_flat x.instrs ⟨0,[],[]⟩ (fun x => oprM x.operands),List.map_flatMap]
  congr 1
  ·rw [show ((fun x:Int × Spot => x.1) ∘ fun v:Int => (v,((b:Int),(-1:Int)))) = id from rfl,List.map_id]
  ·congr 1
   funext i
   unfold insSp
   rw [List.map_map,show ((fun x:Int × Spot => x.1) ∘ fun v:Int => (v,((b:Int),(i:Int)))) = id from rfl,List.map_id]
 unfold spU
 rw [List.map_flatMap]
 simp only [hb]
 exact range_flat bs ⟨[],[],[]⟩ makersOf
theorem spot_is {bs:List Blk} (hn:(allM bs).Nodup) {v:Int} (v0:0 ≤ v) {sp:Spot} (h:(v,sp) ∈ spU bs bs.length):spotOf (spU bs bs.length) v.toNat = sp:=by
 unfold spotOf
 exact spotOf_go v.toNat sp _ _ (by rw [Int.toNat_of_nonneg v0]; exact h) (by rw [sp_vals]; exact hn)
theorem dom_end {n K:Nat} {preds:List (List Int)} {order:List Int} (g:Gr n preds order) (hK:0 < K) {a b:Int} (ha:0 ≤ a) (b0:0 ≤ b) (b1:b < n):domM (roundsM (predL preds) order n K) (n + 1) a b = true ↔ Up (order.getD 0 0) (roundsM (predL preds) order n K) b a:=by
 have hr:=(kt_at g K).rng b b0 b1
 exact dom_iff (kt_at g K) (RI.rounds g K).1.rt ha (n + 1) b (all_kn g K hK b b0 b1) (by omega)
end Go.Proofs.Ytglfpnnfcpnmoaa
