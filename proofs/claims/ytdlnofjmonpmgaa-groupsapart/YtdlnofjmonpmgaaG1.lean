/-
  Groups of values, in plain terms: what joining two groups keeps. No Go in here.
-/
import Derived.Test.YtdlnofjmonpmgaaV12
import Derived.Test.YtdlnofjmonpmgaaV14
import Derived.Shelf.SlSortCmp.WholeK
namespace Go.Proofs.Ytdlnofjmonpmgaa
open Go.RowKit
set_option linter.unusedVariables false
def meetL (a b:List Sp):Bool:=a.any fun s => b.any fun t => decide (s.1 < t.2) && decide (t.1 < s.2)
theorem meetL_iff (a b:List Sp):meetL a b = true ↔ ∃ s ∈ a,∃ t ∈ b,s.1 < t.2∧t.1 < s.2:=by
 simp [meetL,List.any_eq_true]
def grMeet (nv:Nat) (S:Nat → List Sp) (q:Nat → Nat) (a b:Nat):Prop:=∃ v w,v < nv∧w < nv∧q v = a∧q w = b∧meetL (S v) (S w) = true
def uniG (q:Nat → Nat) (v w:Nat):Nat → Nat:=fun i => if q i = max (q v) (q w) then min (q v) (q w) else q i
open Classical in
noncomputable def joinG (nv:Nat) (S:Nat → List Sp) (q:Nat → Nat) (v w:Nat):Nat → Nat :=
 if q v = q w ∨ grMeet nv S q (q v) (q w) then q else uniG q v w
def Clear (s t:Sp):Prop:=¬ (s.1 < t.2∧t.1 < s.2)
theorem Clear.symm {s t:Sp} (h:Clear s t):Clear t s:=fun ⟨a,b⟩ => h ⟨b,a⟩
def Side:List Sp → Prop
 | [] => True
 | [_] => True
 | x :: y :: r => x.2 ≤ y.1∧Side (y :: r)
def Pos (l:List Sp):Prop:=∀ x ∈ l,x.1 < x.2
def Asc (l:List Sp):Prop:=l.Pairwise fun s t => s.1 ≤ t.1
theorem side_chain:∀ {l:List Sp},Pos l → Side l → l.Pairwise (fun s t => s.2 ≤ t.1)
 | [],_,_ => List.Pairwise.nil
 | [x],_,_ => List.pairwise_singleton _ _
 | x :: y :: r,hp,hs => by
  have ih:=side_chain (l:=y :: r) (fun z hz => hp z (List.mem_cons_of_mem _ hz)) hs.2
  refine List.Pairwise.cons (fun z hz => ?_) ih
  rcases List.mem_cons.1 hz with rfl | hz'
  ·exact hs.1
  ·have h1:=(List.pairwise_cons.1 ih).1 z hz'
   have h2:=hp y (by simp)
   have h3:=hs.1
   omega
theorem side_clear {l:List Sp} (hp:Pos l) (hs:Side l):l.Pairwise Clear :=
 (side_chain hp hs).imp fun h ⟨_,h2⟩ => by omega
theorem clear_side:∀ {l:List Sp},Pos l → Asc l → l.Pairwise Clear → Side l
 | [],_,_,_ => trivial
 | [x],_,_,_ => trivial
 | x :: y :: r,hp,ha,hc => by
  refine ⟨?_,clear_side (fun z hz => hp z (List.mem_cons_of_mem _ hz)) (List.pairwise_cons.1 ha).2 (List.pairwise_cons.1 hc).2⟩
  have h1:=(List.pairwise_cons.1 hc).1 y (by simp)
  have h2:=(List.pairwise_cons.1 ha).1 y (by simp)
  have h3:=hp y (by simp)
  have h4:x.1 < y.2:=by omega
  exact Int.not_lt.1 fun h => h1 ⟨h4,h⟩
theorem side_iff {a b c:List Sp} (hpm:c.Perm (a ++ b)) (hasc:Asc c) (pa:Pos a) (pb:Pos b) (ca:a.Pairwise Clear) (cb:b.Pairwise Clear):Side c ↔ meetL a b = false:=by
 have hp:Pos c:=fun x hx => by
  rcases List.mem_append.1 (hpm.mem_iff.1 hx) with h | h
  ·exact pa x h
  ·exact pb x h
 have hcc:c.Pairwise Clear ↔ (a ++ b).Pairwise Clear:=hpm.pairwise_iff Clear.symm
 have hab:(a ++ b).Pairwise Clear ↔ ∀ s ∈ a,∀ t ∈ b,Clear s t:=by
  rw [List.pairwise_append]
  exact ⟨fun h => h.2.2,fun h => ⟨ca,cb,h⟩⟩
 have hm:meetL a b = false ↔ ∀ s ∈ a,∀ t ∈ b,Clear s t:=by
  rw [← Bool.not_eq_true,meetL_iff]
  exact ⟨fun h s hs t ht hst => h ⟨s,hs,t,ht,hst⟩,fun h ⟨s,hs,t,ht,hst⟩ => h s hs t ht hst⟩
 rw [hm,← hab,← hcc]
 exact ⟨side_clear hp,clear_side hp hasc⟩
def cntG (S:Nat → List Sp) (q:Nat → Nat) (g:Nat):Nat → Nat
 | 0 => 0
 | n + 1 => cntG S q g n + if q n = g then (S n).length else 0
theorem cntG_le (S:Nat → List Sp) (q:Nat → Nat) (g c:Nat):∀ n,(∀ v,v < n → (S v).length ≤ c) → cntG S q g n ≤ c * n
 | 0,_ => by simp [cntG]
 | n + 1,h => by
  have ih:=cntG_le S q g c n fun v hv => h v (by omega)
  have h1:=h n (by omega)
  simp only [cntG,Nat.mul_succ]
  split <;> omega
theorem cntG_id (S:Nat → List Sp) (g:Nat):∀ n,cntG S id g n = if g < n then (S g).length else 0
 | 0 => by simp [cntG]
 | n + 1 => by
  have ih:=cntG_id S g n
  simp only [cntG,ih,id]
  by_cases e:n = g
  ·subst e; simp
  ·rw [if_neg e]
   by_cases h:g < n
   ·rw [if_pos h,if_pos (by omega)]; rfl
   ·rw [if_neg h,if_neg (by omega)]
theorem cntG_union (S:Nat → List Sp) {q q':Nat → Nat} {lo hi:Nat} (hne:lo ≠ hi) (h:∀ i,q' i = lo ↔ q i = lo ∨ q i = hi):∀ n,cntG S q' lo n = cntG S q lo n + cntG S q hi n
 | 0 => rfl
 | n + 1 => by
  have ih:=cntG_union S hne h n
  simp only [cntG,ih]
  by_cases e1:q n = lo
  ·rw [if_pos ((h n).2 (Or.inl e1)),if_pos e1,if_neg (by omega)]; omega
  ·by_cases e2:q n = hi
   ·rw [if_pos ((h n).2 (Or.inr e2)),if_neg e1,if_pos e2]; omega
   ·rw [if_neg (fun h3 => ((h n).1 h3).elim e1 e2),if_neg e1,if_neg e2]; omega
theorem cntG_same (S:Nat → List Sp) {q q':Nat → Nat} {g:Nat} (h:∀ i,q' i = g ↔ q i = g):∀ n,cntG S q' g n = cntG S q g n
 | 0 => rfl
 | n + 1 => by
  simp only [cntG,cntG_same S h n]
  by_cases e:q n = g
  ·rw [if_pos e,if_pos ((h n).2 e)]
  ·rw [if_neg e,if_neg fun h3 => e ((h n).1 h3)]
structure GInv (nv:Nat) (S:Nat → List Sp) (q:Nat → Nat) (T:Nat → List Sp):Prop where
 le:∀ v,v < nv → q v ≤ v
 idem:∀ v,v < nv → q (q v) = q v
 mem:∀ g,g < nv → q g = g → ∀ x,x ∈ T g ↔ ∃ v,v < nv∧q v = g∧x ∈ S v
 apart:∀ g,g < nv → q g = g → (T g).Pairwise Clear
 alone:∀ v w,v < nv → w < nv → v ≠ w → q v = q w → meetL (S v) (S w) = false
 len:∀ g,g < nv → q g = g → (T g).length = cntG S q g nv
theorem ginv_start {nv:Nat} {S:Nat → List Sp} (hS:∀ v,v < nv → (S v).Pairwise Clear):GInv nv S id S :=
 ⟨fun _ _ => Nat.le_refl _,fun _ _ => rfl,fun g hg _ x => ⟨fun h => ⟨g,hg,rfl,h⟩,fun ⟨v,_,h1,h2⟩ => by
  have:v = g:=h1
  subst this
  exact h2⟩,fun g hg _ => hS g hg,fun v w _ _ hne h => absurd h hne,fun g hg _ => by rw [cntG_id,if_pos hg]⟩
theorem meetL_symm (a b:List Sp):meetL a b = meetL b a:=by
 apply Bool.eq_iff_iff.2
 rw [meetL_iff,meetL_iff]
 exact ⟨fun ⟨s,hs,t,ht,h1,h2⟩ => ⟨t,ht,s,hs,h2,h1⟩,fun ⟨s,hs,t,ht,h1,h2⟩ => ⟨t,ht,s,hs,h2,h1⟩⟩
theorem GInv.meets {nv:Nat} {S:Nat → List Sp} {q:Nat → Nat} {T:Nat → List Sp} (h:GInv nv S q T) {a b:Nat} (ha:a < nv) (hb:b < nv) (qa:q a = a) (qb:q b = b):meetL (T a) (T b) = true ↔ grMeet nv S q a b:=by
 rw [meetL_iff]
 constructor
 ·rintro ⟨s,hs,t,ht,h1,h2⟩
  obtain ⟨v,hv,e1,hsv⟩:=(h.mem a ha qa s).1 hs
  obtain ⟨w,hw,e2,htw⟩:=(h.mem b hb qb t).1 ht
  exact ⟨v,w,hv,hw,e1,e2,(meetL_iff _ _).2 ⟨s,hsv,t,htw,h1,h2⟩⟩
 ·rintro ⟨v,w,hv,hw,e1,e2,h3⟩
  obtain ⟨s,hs,t,ht,h1,h2⟩:=(meetL_iff _ _).1 h3
  exact ⟨s,(h.mem a ha qa s).2 ⟨v,hv,e1,hs⟩,t,(h.mem b hb qb t).2 ⟨w,hw,e2,ht⟩,h1,h2⟩
theorem GInv.pos {nv:Nat} {S:Nat → List Sp} {q:Nat → Nat} {T:Nat → List Sp} (h:GInv nv S q T) (hS:∀ v,v < nv → Pos (S v)) {a:Nat} (ha:a < nv) (qa:q a = a):Pos (T a):=fun x hx => by
 obtain ⟨v,hv,_,hs⟩:=(h.mem a ha qa x).1 hx
 exact hS v hv x hs
theorem GInv.same {nv:Nat} {S:Nat → List Sp} {q:Nat → Nat} {T:Nat → List Sp} {v w:Nat} (h:GInv nv S q T) (he:q v = q w ∨ grMeet nv S q (q v) (q w)):GInv nv S (joinG nv S q v w) T:=by
 unfold joinG
 rw [if_pos he]
 exact h
theorem GInv.union {nv:Nat} {S:Nat → List Sp} {q:Nat → Nat} {T:Nat → List Sp} {v w:Nat} (h:GInv nv S q T) (hv:v < nv) (hw:w < nv) (hne:q v ≠ q w) (hm:¬ grMeet nv S q (q v) (q w)) (both:List Sp) (hmem:∀ x,x ∈ both ↔ x ∈ T (min (q v) (q w)) ∨ x ∈ T (max (q v) (q w))) (hcl:both.Pairwise Clear) (hlen:both.length = (T (min (q v) (q w))).length + (T (max (q v) (q w))).length) :
  GInv nv S (joinG nv S q v w) (fun i => if i = min (q v) (q w) then both else T i):=by
 unfold joinG
 rw [if_neg (by intro h1; rcases h1 with h1 | h1; exact hne h1; exact hm h1)]
 have lv:=h.le v hv
 have lw:=h.le w hw
 obtain ⟨lo,hlo⟩:∃ lo,lo = min (q v) (q w):=⟨_,rfl⟩
 obtain ⟨hi,hhi⟩:∃ hi,hi = max (q v) (q w):=⟨_,rfl⟩
 have hlt:lo < hi:=by omega
 have hhn:hi < nv:=by omega
 have qlo:q lo = lo:=by
  rcases Nat.le_total (q v) (q w) with h1 | h1
  ·rw [show lo = q v by omega]; exact h.idem v hv
  ·rw [show lo = q w by omega]; exact h.idem w hw
 have qhi:q hi = hi:=by
  rcases Nat.le_total (q v) (q w) with h1 | h1
  ·rw [show hi = q w by omega]; exact h.idem w hw
  ·rw [show hi = q v by omega]; exact h.idem v hv
 have hm':¬ grMeet nv S q lo hi:=by
  rcases Nat.le_total (q v) (q w) with h1 | h1
  ·rw [show lo = q v by omega,show hi = q w by omega]; exact hm
  ·rw [show lo = q w by omega,show hi = q v by omega]
   rintro ⟨a,b,ha,hb,e1,e2,h3⟩
   exact hm ⟨b,a,hb,ha,e2,e1,by rw [meetL_symm]; exact h3⟩
 have hu:∀ i,uniG q v w i = if q i = hi then lo else q i:=fun i => by unfold uniG; rw [hhi,hlo]
 rw [← hlo] at hmem hlen ⊢
 rw [← hhi] at hmem hlen
 clear hlo hhi hm hne lv lw hv hw
 have hle:∀ i,i < nv → uniG q v w i ≤ i:=fun i hi' => by
  rw [hu]
  have:=h.le i hi'
  split <;> omega
 have heq:∀ i,uniG q v w i = lo ↔ q i = lo ∨ q i = hi:=fun i => by
  rw [hu]
  split
  ·rename_i e; exact ⟨fun _ => Or.inr e,fun _ => rfl⟩
  ·rename_i e; exact ⟨fun h1 => Or.inl h1,fun h1 => h1.resolve_right e⟩
 have hot:∀ i g,g ≠ lo → (uniG q v w i = g ↔ q i = g∧q i ≠ hi):=fun i g hg => by
  rw [hu]
  split
  ·rename_i e; exact ⟨fun h1 => absurd h1.symm hg,fun h1 => absurd e h1.2⟩
  ·rename_i e; exact ⟨fun h1 => ⟨h1,e⟩,fun h1 => h1.1⟩
 refine ⟨hle,fun i hi' => ?_,fun g hg hq x => ?_,fun g hg hq => ?_,fun a b ha hb hab he => ?_,fun g hg hq => ?_⟩
 ·by_cases e:uniG q v w i = lo
  ·rw [e,heq]
   exact Or.inl qlo
  ·have h1:=(hot i (uniG q v w i) e).1 rfl
   rw [hot _ _ e,← h1.1,h.idem i hi']
   exact ⟨rfl,h1.2⟩
 ·show x ∈ (if g = lo then both else T g) ↔ _
  by_cases e:g = lo
  ·rw [if_pos e,e,hmem,h.mem lo (by omega) qlo,h.mem hi hhn qhi]
   constructor
   ·rintro (⟨a,h1,h2,h3⟩ | ⟨a,h1,h2,h3⟩)
    ·exact ⟨a,h1,(heq a).2 (Or.inl h2),h3⟩
    ·exact ⟨a,h1,(heq a).2 (Or.inr h2),h3⟩
   ·rintro ⟨a,h1,h2,h3⟩
    rcases (heq a).1 h2 with h4 | h4
    ·exact Or.inl ⟨a,h1,h4,h3⟩
    ·exact Or.inr ⟨a,h1,h4,h3⟩
  ·have h0:=(hot g g e).1 hq
   rw [if_neg e,h.mem g hg h0.1]
   constructor
   ·rintro ⟨a,h1,h2,h3⟩
    exact ⟨a,h1,(hot a g e).2 ⟨h2,by rw [h2]; intro e2; exact h0.2 (by rw [h0.1]; exact e2)⟩,h3⟩
   ·rintro ⟨a,h1,h2,h3⟩
    exact ⟨a,h1,((hot a g e).1 h2).1,h3⟩
 ·show (if g = lo then both else T g).Pairwise Clear
  by_cases e:g = lo
  ·rw [if_pos e]; exact hcl
  ·rw [if_neg e]
   exact h.apart g hg ((hot g g e).1 hq).1
 ·by_cases e:uniG q v w b = lo
  ·rw [e] at he
   rcases (heq a).1 he with h1 | h1 <;> rcases (heq b).1 e with h2 | h2
   ·exact h.alone a b ha hb hab (h1.trans h2.symm)
   ·exact Bool.not_eq_true _ ▸ fun h3 => hm' ⟨a,b,ha,hb,h1,h2,h3⟩
   ·rw [meetL_symm]
    exact Bool.not_eq_true _ ▸ fun h3 => hm' ⟨b,a,hb,ha,h2,h1,h3⟩
   ·exact h.alone a b ha hb hab (h1.trans h2.symm)
  ·have h1:=(hot b _ e).1 rfl
   rw [hot a _ e] at he
   exact h.alone a b ha hb hab (by rw [he.1]; exact h1.1.symm)
 ·show (if g = lo then both else T g).length = _
  by_cases e:g = lo
  ·rw [if_pos e,hlen,e,cntG_union S (Nat.ne_of_lt hlt) heq nv,h.len lo (by omega) qlo,h.len hi hhn qhi]
  ·have h0:=(hot g g e).1 hq
   rw [if_neg e,h.len g hg h0.1]
   refine (cntG_same S (fun i => ⟨fun h1 => ((hot i g e).1 h1).1,fun h1 => (hot i g e).2 ⟨h1,fun h2 => h0.2 ?_⟩⟩) nv).symm
   rw [h0.1,← h1]
   exact h2
theorem joinG_keep (nv:Nat) (S:Nat → List Sp) (q:Nat → Nat) (v w a b:Nat) (h:q a = q b):joinG nv S q v w a = joinG nv S q v w b:=by
 unfold joinG
 split
 ·exact h
 ·unfold uniG; rw [h]
theorem joinG_meets (nv:Nat) (S:Nat → List Sp) (q:Nat → Nat) (v w a b:Nat) (h:grMeet nv S q (q a) (q b)):grMeet nv S (joinG nv S q v w) (joinG nv S q v w a) (joinG nv S q v w b):=by
 obtain ⟨x,y,hx,hy,e1,e2,h3⟩:=h
 exact ⟨x,y,hx,hy,joinG_keep _ _ _ _ _ _ _ e1,joinG_keep _ _ _ _ _ _ _ e2,h3⟩
theorem joinG_done (nv:Nat) (S:Nat → List Sp) (q:Nat → Nat) (v w:Nat):joinG nv S q v w v = joinG nv S q v w w ∨ grMeet nv S (joinG nv S q v w) (joinG nv S q v w v) (joinG nv S q v w w):=by
 by_cases h:q v = q w ∨ grMeet nv S q (q v) (q w)
 ·rcases h with h | h
  ·exact Or.inl (joinG_keep _ _ _ _ _ _ _ h)
  ·exact Or.inr (joinG_meets _ _ _ _ _ _ _ h)
 ·left
  unfold joinG
  rw [if_neg h]
  unfold uniG
  split <;> split <;> omega
end Go.Proofs.Ytdlnofjmonpmgaa
namespace Go.Proofs.Ytdlnofjmonpmgaa
open Go.RowKit Go.Sort
set_option linter.unusedVariables false
theorem flatS_get (l:List Sp) (t:Nat) (ht:t < l.length * 2):(flatK cS 2 l.toArray)[t]! = ((l.flatMap cS)[t]?).getD default:=by
 rw [get_flatK cS 2 l.toArray t (by simpa using ht)]
 have hq:t / 2 < l.length:=by omega
 have hr:t % 2 < 2:=Nat.mod_lt _ (by omega)
 have h4:=flat_at cS 2 (fun _ => rfl) l (t / 2) (t % 2) hq hr
 rw [show t / 2 * 2 + t % 2 = t by omega] at h4
 rw [h4]
 have h5:l.toArray[t / 2]! = l[t / 2]:=by simp [hq]
 rw [h5]
 simp
theorem own_block {w:World} {base e n g cap:Nat} {xs:List Value} (h:w.ownsRow base e 2 (.slice (some ⟨g,0,none⟩) n cap) n xs):∃ cur,base ≤ g∧w.heap[g]? = some (.cells cur e (0,0))∧n ≤ cap∧cap ≤ maxLen∧cur.size = cap * 2∧cur.toList.take (n * 2) = xs:=by
 obtain ⟨hl,h⟩:=h
 rcases h with ⟨h1,_⟩ | ⟨g',cap',cur,h1,h2,h3,h4,h5,h6,h7⟩
 ·cases h1
 ·simp only [Value.slice.injEq,Option.some.injEq,Addr.mk.injEq] at h1
  obtain ⟨⟨rfl,_⟩,_,rfl⟩:=h1
  exact ⟨cur,h2,h3,h4,h5,h6,h7⟩
theorem holdsK_own {w:World} {base e n g cap:Nat} {l:List Sp} (h:w.ownsRow base e 2 (.slice (some ⟨g,0,none⟩) n cap) n (l.flatMap cS)) (hl:l.length = n):HoldsK cS 2 w g 0 l.toArray:=by
 obtain ⟨cur,_,h3,h4,h5,h6,h7⟩:=own_block h
 intro j hj
 have hj':j < l.length * 2:=by simpa using hj
 refine ⟨?_,by simp [World.frozen?,h3]⟩
 rw [flatS_get l j hj',← h7,List.getElem?_take,if_pos (by omega),Array.getElem?_toList]
 have:j < cur.size:=by omega
 simp [World.cell?,h3,this]
theorem heap_sortedK {w:World} {g n:Nat} {os:Array Obj} {cur:Array Value} {e:TypeId} {fr:Nat × Nat} (d:Array Sp) (hb:w.heap[g]? = some (.cells cur e fr)) :
  (sortWorldK cS 2 w g 0 n d os).heap[g]? = some (.cells (putCells id 0 (flatK cS 2 d) cur) e fr):=by
 have hg:g < w.heap.size:=(Array.getElem?_eq_some_iff.1 hb).1
 unfold sortWorldK
 rw [heap_grow_old _ _ (by simpa [putRowK] using hg)]
 simp [putRowK,putRow,mapBlock,Sort.ahead,Array.getElem?_modify,hb,onCells]
theorem grownBy_sortedK {w:World} {g n:Nat} {os:Array Obj} (d:Array Sp):w.grownBy (sortWorldK cS 2 w g 0 n d os) (some g):=by
 refine ⟨rfl,rfl,rfl,by simp [sortWorldK,putRowK],fun k hk hne => ?_⟩
 unfold sortWorldK
 rw [heap_grow_old _ _ (by simpa [putRowK] using hk)]
 have:g ≠ k:=fun e => hne (by rw [e])
 simp [putRowK,putRow,mapBlock,Sort.ahead,Array.getElem?_modify,this]
theorem own_sortedK {w:World} {base e n g cap m:Nat} {os:Array Obj} {l:List Sp} (h:w.ownsRow base e 2 (.slice (some ⟨g,0,none⟩) n cap) n (l.flatMap cS)) (hl:l.length = n) (l':List Sp) (hl':l'.length = n) :
  (sortWorldK cS 2 w g 0 m l'.toArray os).ownsRow base e 2 (.slice (some ⟨g,0,none⟩) n cap) n (l'.flatMap cS):=by
 obtain ⟨cur,h2,h3,h4,h5,h6,h7⟩:=own_block h
 refine ⟨by rw [cS_len,hl'],Or.inr ⟨g,cap,_,rfl,h2,heap_sortedK _ h3,h4,h5,by simp [putCells,h6],?_⟩⟩
 apply List.ext_getElem?
 intro j
 by_cases hj:j < n * 2
 ·rw [List.getElem?_take,if_pos hj,Array.getElem?_toList]
  have hc:j < cur.size:=by omega
  have hF:=flatS_get l' j (by omega)
  have hs:j < (l'.flatMap cS).length:=by rw [cS_len]; omega
  rw [List.getElem?_eq_getElem hs] at hF ⊢
  simp only [putCells,Array.getElem?_mapIdx,Array.getElem?_eq_getElem hc,Option.map_some,size_flatK,List.size_toArray]
  rw [if_pos ⟨Nat.zero_le _,by omega⟩,Nat.sub_zero,hF]
  rfl
 ·rw [List.getElem?_take_eq_none (by omega),List.getElem?_eq_none (by rw [cS_len]; omega)]
theorem ltSp (x y:Sp):ltOf (fun x y:Sp => Lib.compareInt x.1 y.1) x y = decide (x.1 < y.1):=by
 unfold ltOf Lib.compareInt
 by_cases h1:x.1 < y.1
 ·simp [h1]
 ·by_cases h2:y.1 < x.1 <;> simp [h1,h2]
theorem swoSp:SWO (ltOf fun x y:Sp => Lib.compareInt x.1 y.1) where
 irrefl x:=by rw [ltSp]; simp
 trans x y z h1 h2:=by rw [ltSp] at *; simp at *; omega
 ntrans x y z h1 h2:=by rw [ltSp] at *; simp at *; omega
theorem perm_of {l:List Sp} {d':Array Sp} (h:PermIn 0 l.toArray.size l.toArray d'):d'.toList.Perm l:=by
 obtain ⟨h1,_,h3⟩:=h
 have e1:d'.extract 0 l.toArray.size = d':=by rw [← h1]; simp
 have e2:l.toArray.extract 0 l.toArray.size = l.toArray:=by simp
 rw [e1,e2] at h3
 simpa using h3
theorem asc_of {l:List Sp} {d':Array Sp} (hs:d'.size = l.toArray.size) (h:SortedIn (ltOf fun x y:Sp => Lib.compareInt x.1 y.1) 0 l.toArray.size d'):Asc d'.toList:=by
 refine List.pairwise_iff_getElem.2 fun i j hi hj hij => ?_
 have h1:=h i j (Nat.zero_le _) hij (by rw [← hs]; simpa using hj)
 rw [ltSp] at h1
 simp at h1 hi hj
 rw [getElem!_pos d' j hj,getElem!_pos d' i hi] at h1
 simpa using h1
end Go.Proofs.Ytdlnofjmonpmgaa
