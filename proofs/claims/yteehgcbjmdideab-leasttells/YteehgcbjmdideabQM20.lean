/- slices.Clone and slices.CompactFunc at arcs,as 'order.Least' calls them. -/
import Derived.Test.YteehgcbjmdideabQM19
import Derived.Lib.SliceRun
import Derived.Deep.Upon
import Derived.Test.YteehgcbjmdideabQM18
set_option maxRecDepth 100000
namespace Go.Proofs.Yteehgcbjmdideab
open Go.RowKit
attribute [local go_sem ↓] Go.wp_at_zero Go.wp_at_succ
theorem arcsV_len (ars : List ArcD) : (arcsV ars).length = ars.length * 5:=by
 induction ars with
 | nil => rfl
 | cons a l ih =>
  have : arcsV (a :: l) = arcCells a ++ arcsV l:=rfl
  rw [this,List.length_append,ih]
  show 5 + l.length * 5 = (l.length + 1) * 5
  omega
theorem arcsV_one (ars : List ArcD) : ∀ u ∈ arcsV ars,u.oneCell' = true:=by
 intro u hu
 obtain ⟨a,_,ha⟩:=List.mem_flatMap.1 hu
 exact oneCell_arc a u ha
theorem ArcsAt.flat {w : World} {b off n : Nat} {ars : List ArcD} (h : ArcsAt w b off n ars) : ∀ j u,(arcsV ars)[j]? = some u -> w.cell? ⟨b,off + j,none⟩ = some u:=by
 intro j u hj
 have hl : j < (arcsV ars).length:=(List.getElem?_eq_some_iff.1 hj).1
 rw [arcsV_len] at hl
 have hi : j / 5 < ars.length:=by omega
 have hn : j / 5 < n:=by rw [<- h.len]; exact hi
 have he : j / 5 * 5 + j % 5 = j:=by omega
 have hg:=arcsV_get ars (j / 5) (j % 5) hi (by omega)
 rw [he,hj] at hg
 rw [<- he]
 have hm : j % 5 < 5:=by omega
 generalize j % 5 = r at hg hm ⊢
 generalize j / 5 = q at hg hn ⊢
 match r,hm with
 | 0,_ => rw [show off + (q * 5 + 0) = off + q * 5 by omega,h.c0 q hn]; exact hg.symm
 | 1,_ => rw [show off + (q * 5 + 1) = off + q * 5 + 1 by omega,h.c1 q hn]; exact hg.symm
 | 2,_ => rw [show off + (q * 5 + 2) = off + q * 5 + 2 by omega,h.c2 q hn]; exact hg.symm
 | 3,_ => rw [show off + (q * 5 + 3) = off + q * 5 + 3 by omega,h.c3 q hn]; exact hg.symm
 | 4,_ => rw [show off + (q * 5 + 4) = off + q * 5 + 4 by omega,h.c4 q hn]; exact hg.symm
set_option maxHeartbeats 2000000 in
theorem cloneA_some (ars : List ArcD) (b off n c : Nat) (w : World) (hx : ArcsAt w b off n ars) (hn : n <= 100000) :
  Calls Try.prog 94 #[.slice (some ⟨b,off,none⟩) n c] w fun e w' => ∃ v',e = .returned v' /\ w'.ownsRow w.heap.size 54 5 v' n (arcsV ars) /\ v' ≠ .slice none 0 0 /\ Below w.heap.size w w':=by
 obtain ⟨i0,hi,hz0,hz1,hz2⟩:=info_parts Try.info54
 have q : ∀ (w : World) (a : Option Addr) (n c n' c' : Nat),(binOp .eql 23 (.slice a n c) (.slice none n' c')).run Try.prog w = .ok (.bool a.isNone) w:=fun w a n c n' c' => Lib.run_eql_slice_nil w _ _ a n c n' c' Try.underlying23
 have HX : Hid (∀ j u,(arcsV ars)[j]? = some u -> w.cell? ⟨b,off + j,none⟩ = some u):=hx.flat
 have HL : Hid (ars.length = n):=hx.len
 clear hx
 go_enter Try.func94,Try.ntmps94
 go_wp2_with (at_builtin; refine wpList_append_own _ rfl _ _ 23 rfl w.heap.size 54 i0 _ 5 40 Try.underlying23 hi hz0 hz1 hz2 rfl (by decide) _ _ _ rfl (World.ownsRow_made w #[] 0 (Nat.le_refl _) (Nat.zero_le _) rfl) ⟨b,off,none⟩ n c (arcsV ars) rfl ?qc1 ?qc2 ?qc3 ?qc4 ?qc5 ?qc6 ?_)
 case qc1 => rw [arcsV_len,HL.out]
 case qc2 =>
  intro j u hj
  rw [Addr.add_lit]
  exact Lib.cell?_alloc_some _ (HX.out j u hj)
 case qc3 => exact arcsV_one ars
 case qc4 => unfold maxLen; omega
 case qc5 => omega
 case qc6 => simp
 intro v' w1 hown hgrow hnil
 go_wp2
 go_ret
 refine ⟨v',rfl,by simpa using hown,?_,?_⟩
 ·exact hnil
 ·exact ((Below.refl _ w).alloc (Nat.le_refl _) _).grown hgrow (by simp) (by intro k hk; simp [Value.ownBlock] at hk; omega)
set_option maxHeartbeats 1000000 in
theorem cloneA_nil (n c : Nat) (w : World) :
  Calls Try.prog 94 #[.slice none n c] w fun e w' => e = .returned (.slice none 0 0) /\ w' = w:=by
 have q : ∀ (w : World) (a : Option Addr) (n c n' c' : Nat),(binOp .eql 23 (.slice a n c) (.slice none n' c')).run Try.prog w = .ok (.bool a.isNone) w:=fun w a n c n' c' => Lib.run_eql_slice_nil w _ _ a n c n' c' Try.underlying23
 go_enter Try.func94,Try.ntmps94
 go_wp2
 go_ret
 exact ⟨rfl,rfl⟩
set_option maxHeartbeats 2000000 in
theorem cloneA_zero (ad : Addr) (c : Nat) (w : World) :
  Calls Try.prog 94 #[.slice (some ad) 0 c] w fun e w' => (∃ a cap,e = .returned (.slice a 0 cap)) /\ Below w.heap.size w w':=by
 obtain ⟨i0,hi,hz0,hz1,hz2⟩:=info_parts Try.info54
 have q : ∀ (w : World) (a : Option Addr) (n c n' c' : Nat),(binOp .eql 23 (.slice a n c) (.slice none n' c')).run Try.prog w = .ok (.bool a.isNone) w:=fun w a n c n' c' => Lib.run_eql_slice_nil w _ _ a n c n' c' Try.underlying23
 go_enter Try.func94,Try.ntmps94
 go_wp2_with (at_builtin; refine wpList_append_own _ rfl _ _ 23 rfl w.heap.size 54 i0 _ 5 40 Try.underlying23 hi hz0 hz1 hz2 rfl (by decide) _ _ _ rfl (World.ownsRow_made w #[] 0 (Nat.le_refl _) (Nat.zero_le _) rfl) ad 0 c [] rfl ?qc1 ?qc2 ?qc3 ?qc4 ?qc5 ?qc6 ?_)
 case qc1 => rfl
 case qc2 => intro j u hj; simp at hj
 case qc3 => intro u hu; cases hu
 case qc4 => unfold maxLen; omega
 case qc5 => omega
 case qc6 => simp
 intro v' w1 hown hgrow hnil
 go_wp2
 go_ret
 refine ⟨?_,((Below.refl _ w).alloc (Nat.le_refl _) _).grown hgrow (by simp) (by intro k hk; simp [Value.ownBlock] at hk; omega)⟩
 have : ASlice w1 v' []:=ownsRow_arcs (ars:=[]) (by simpa [arcsV] using hown)
 obtain ⟨a,n,c,rfl,h1,_⟩:=this.lenOf
 simp at h1
 subst h1
 exact ⟨a,c,rfl⟩
end Go.Proofs.Yteehgcbjmdideab
/- slices.CompactFunc at arcs,with the closure of 'order.Least': of neighbours that differ in nothing but the weight the first stays. -/
namespace Go.Proofs.Yteehgcbjmdideab
open Go.RowKit
attribute [local go_sem ↓] Go.wp_at_zero Go.wp_at_succ
section
variable {l : List ArcD} {k : Nat}
end
structure ARow (w : World) (g n : Nat) (xs : List ArcD) : Prop where
 len : xs.length = n
 cell : ∀ i j,i < n -> j < 5 -> w.cell? ⟨g,i * 5 + j,none⟩ = (arcCells (xs.getD i a0))[j]?
 frz : ∀ i,i < n * 5 -> w.frozen? ⟨g,i,none⟩ = false
theorem ARow.of {w : World} {B e g n cap : Nat} {xs : List ArcD} (h : w.ownsRow B e 5 (.slice (some ⟨g,0,none⟩) n cap) n (arcsV xs)) : ARow w g n xs /\ n <= cap:=by
 have hl0:=h.1
 rw [arcsV_len] at hl0
 have hl : xs.length = n:=by omega
 obtain ⟨_,h⟩:=h
 rcases h with ⟨h,_⟩ | ⟨g',cap',cur,he,_,hh,h1,h2,h3,h4⟩
 ·cases h
 ·cases he
  refine ⟨⟨hl,fun i j hi hj => ?_,fun i _ => Go.Joins.unfrozen_of_block hh i⟩,h1⟩
  have h5:=arcsV_get xs i j (by omega) hj
  rw [<- h4,List.getElem?_take,if_pos (by omega),Array.getElem?_toList] at h5
  rw [Go.Joins.cell_of_block hh]; exact h5
end Go.Proofs.Yteehgcbjmdideab
/- 'moved' of package oneway. (Made by wip/gen/owj.py.) -/
namespace Go.Proofs.Yteehgcbjmdideab
open Go.RowKit
attribute [local go_sem ↓] Go.wp_at_zero Go.wp_at_succ
def movF (fin ah : List Int) (k : Nat) : List Int:=(List.range fin.length).map fun s => if s < k then (if gI fin s = -1 then -1 else gI fin s - gI ah s) else gI fin s
def movA (ah : List Int) (a : ArcD) : ArcD:=⟨a.src,a.inp,a.out,a.dst,a.wt + (gI ah a.dst.toNat - gI ah a.src.toNat)⟩
def movD (f : FstD) (ah : List Int) : FstD:=⟨f.states,f.start,movF f.final ah f.final.length,f.arcs.map (movA ah)⟩
theorem movF_len (fin ah : List Int) (k : Nat) : (movF fin ah k).length = fin.length:=by simp [movF]
theorem movF_at (fin ah : List Int) (k : Nat) {s : Nat} (hs : s < fin.length) : gI (movF fin ah k) s = if s < k then (if gI fin s = -1 then -1 else gI fin s - gI ah s) else gI fin s:=by
 conv => lhs; unfold gI
 simp [movF,List.getD,hs]
theorem movF_zero (fin ah : List Int) : movF fin ah 0 = fin:=by
 apply List.ext_getElem (by simp [movF])
 intro i h1 h2
 have h3 : gI fin i = fin[i]:=by unfold gI; simp [List.getD,h2]
 simp [movF,h3]
theorem movF_none (fin ah : List Int) {k : Nat} (h : gI fin k = -1) : movF fin ah (k + 1) = movF fin ah k:=by
 unfold movF
 apply List.map_congr_left
 intro s _
 by_cases e : s = k
 ·subst e
  rw [if_pos (Nat.lt_succ_self s),if_pos h,if_neg (Nat.lt_irrefl s),h]
 ·by_cases h2 : s < k
  ·rw [if_pos (by omega),if_pos h2]
  ·rw [if_neg (by omega),if_neg h2]
theorem movF_some (fin ah : List Int) {k : Nat} (h : ¬ gI fin k = -1) : movF fin ah (k + 1) = (movF fin ah k).set k (gI fin k - gI ah k):=by
 unfold movF
 apply List.ext_getElem?
 intro i
 rw [List.getElem?_set]
 by_cases e : k = i
 ·subst e
  rw [if_pos rfl]
  by_cases hl : k < fin.length
  ·rw [if_pos (by simpa using hl)]
   simp [hl,h]
  ·rw [if_neg (by simpa using hl)]
   simp [hl]
 ·rw [if_neg e]
  by_cases hl : i < fin.length
  ·simp only [List.getElem?_map,List.getElem?_range hl,Option.map_some]
   by_cases h2 : i < k
   ·rw [if_pos (by omega),if_pos h2]
   ·rw [if_neg (by omega),if_neg h2]
  ·simp [hl]
def cellA (a : ArcD) (r : Nat) : Value:=if r = 0 then .int .i64 a.src else if r = 1 then .int .i64 a.inp else if r = 2 then .int .i64 a.out else if r = 3 then .int .i64 a.dst else .int .i64 a.wt
def rowA (A : Nat -> ArcD) : Nat -> Value:=fun q => cellA (A (q / 5)) (q % 5)
theorem rowA_of {w : World} {ga n : Nat} {A : Nat -> ArcD} {ars : List ArcD} (h : ValsAt w ga (n * 5) (rowA A)) (hl : ars.length = n) (hA : ∀ i,i < n -> A i = ars.getD i a0) : ArcsAt w ga 0 n ars:=by
 have key : ∀ i r,i < n -> r < 5 -> w.cell? ⟨ga,0 + i * 5 + r,none⟩ = some (cellA (ars.getD i a0) r):=fun i r hi hr => by
  rw [Nat.zero_add,h.cell (i * 5 + r) (by omega)]
  unfold rowA
  rw [show (i * 5 + r) / 5 = i by omega,show (i * 5 + r) % 5 = r by omega,hA i hi]
 exact ⟨hl,fun i hi => key i 0 hi (by omega),fun i hi => key i 1 hi (by omega),fun i hi => key i 2 hi (by omega),fun i hi => key i 3 hi (by omega),fun i hi => key i 4 hi (by omega)⟩
theorem rowA_own {w : World} {B e ga n cap : Nat} {ars : List ArcD} (h : w.ownsRow B e 5 (.slice (some ⟨ga,0,none⟩) n cap) n (arcsV ars)) : ValsAt w ga (n * 5) (rowA fun i => ars.getD i a0):=by
 have hr:=(ARow.of h).1
 obtain ⟨_,h⟩:=h
 rcases h with ⟨h1,_⟩ | ⟨g,cap',cur,h1,_,h3,_⟩
 ·cases h1
 ·injection h1 with h1 _ _
  obtain rfl : ga = g:=by injection h1 with h1; injection h1
  refine ⟨fun q hq => ?_,fun i => Go.Joins.unfrozen_of_block h3 i,heap_lt h3⟩
  have hc:=hr.cell (q / 5) (q % 5) (by omega) (by omega)
  rw [show q / 5 * 5 + q % 5 = q by omega] at hc
  rw [hc]
  unfold rowA cellA arcCells
  have : q % 5 = 0 \/ q % 5 = 1 \/ q % 5 = 2 \/ q % 5 = 3 \/ q % 5 = 4:=by omega
  rcases this with e | e | e | e | e <;> rw [e] <;> rfl
theorem cloneA_any (ars : List ArcD) (aa : Option Addr) (m ac : Nat) (w : World) (ha : ASlice w (.slice aa m ac) ars) (hal : ars.length = m) (hm : m <= 3000) :
  Calls Try.prog 94 #[.slice aa m ac] w fun e w' => ∃ ba bc,e = .returned (.slice ba m bc) /\ (0 < m -> w'.ownsRow w.heap.size 54 5 (.slice ba m bc) m (arcsV ars)) /\ Below w.heap.size w w':=by
 by_cases h0 : m = 0
 ·subst h0
  cases aa with
  | none =>
   refine (cloneA_nil 0 ac w).mono ?_
   rintro e w' ⟨rfl,hw⟩
   subst hw
   exact ⟨none,0,rfl,fun h => absurd h (Nat.lt_irrefl _),bel_self _⟩
  | some ad =>
   refine (cloneA_zero ad ac w).mono ?_
   rintro e w' ⟨⟨a,cap,rfl⟩,hb⟩
   exact ⟨a,cap,rfl,fun h => absurd h (Nat.lt_irrefl _),hb⟩
 ·obtain ⟨b,off,rfl,hx⟩:=ha.some (by omega)
  refine (cloneA_some ars b off m ac w hx (by omega)).mono ?_
  rintro e w' ⟨v,rfl,hown,_,hb⟩
  obtain ⟨a,c,rfl⟩:=own_slice hown
  exact ⟨a,c,rfl,fun _ => hown,hb⟩
structure MV (w wr : World) (N : Nat) (sta : Int) (fin arcs : Value) (Q g1 c1 : Nat) (ba : Option Addr) (m bc : Nat) (xs : List Int) (A : Nat -> ArcD) : Prop where
 rw : RW w wr N sta fin arcs
 res : ZBlock wr (w.heap.size + 1)
 cq : CellsF wr Q (N : Int) sta (.slice (some ⟨g1,0,none⟩) N c1) (.slice ba m bc)
 nums : NumsAt wr g1 N xs
 arr : 0 < m -> ∃ ga,ba = some ⟨ga,0,none⟩ /\ ValsAt wr ga (m * 5) (rowA A) /\ w.heap.size + 1 < ga /\ ga ≠ Q /\ ga ≠ g1
 hQ : w.heap.size + 1 < Q
 h1 : w.heap.size + 1 < g1
 n1 : g1 ≠ Q
section
variable {w wr wx : World} {N : Nat} {sta : Int} {fin arcs : Value} {Q g1 c1 : Nat} {ba : Option Addr} {m bc ga : Nat} {xs : List Int} {A : Nat -> ArcD}
theorem MV.below (h : MV w wr N sta fin arcs Q g1 c1 ba m bc xs A) (hb : Below wr.heap.size wr wx) : MV w wx N sta fin arcs Q g1 c1 ba m bc xs A :=
 ⟨h.rw.below hb,heap_bel hb h.res,h.cq.below hb,h.nums.below hb,fun hm => by
  obtain ⟨ga,e,h1,h2⟩:=h.arr hm
  exact ⟨ga,e,h1.below hb,h2⟩,h.hQ,h.h1,h.n1⟩
theorem MV.setF (h : MV w wr N sta fin arcs Q g1 c1 ba m bc xs A) {s : Nat} {x : Int} (hs : s < N) : MV w (wr.setCell ⟨g1,s,none⟩ (.int .i64 x)) N sta fin arcs Q g1 c1 ba m bc (xs.set s x) A:=by
 have h1:=h.h1
 have hne : Q ≠ g1:=fun e => h.n1 e.symm
 refine ⟨h.rw.set (by omega),heap_far h.res (by omega),⟨(set_far hne).trans h.cq.1,(set_far hne).trans h.cq.2.1,(set_far hne).trans h.cq.2.2.1,(set_far hne).trans h.cq.2.2.2⟩,h.nums.set s x hs,fun hm => ?_,h.hQ,h.h1,h.n1⟩
 obtain ⟨ga,e,h3,h4,h5,h6⟩:=h.arr hm
 exact ⟨ga,e,h3.other h6,h4,h5,h6⟩
theorem MV.setA (h : MV w wr N sta fin arcs Q g1 c1 (some ⟨ga,0,none⟩) m bc xs A) {i : Nat} {x : Int} (hi : i < m) : MV w (wr.setCell ⟨ga,i * 5 + 4,none⟩ (.int .i64 x)) N sta fin arcs Q g1 c1 (some ⟨ga,0,none⟩) m bc xs (fun j => if j = i then ⟨(A i).src,(A i).inp,(A i).out,(A i).dst,x⟩ else A j):=by
 obtain ⟨ga',e,h3,h4,h5,h6⟩:=h.arr (by omega)
 obtain rfl : ga = ga':=by injection e with e; injection e
 have hne : Q ≠ ga:=fun e => h5 e.symm
 refine ⟨h.rw.set (by omega),heap_far h.res (by omega),⟨(set_far hne).trans h.cq.1,(set_far hne).trans h.cq.2.1,(set_far hne).trans h.cq.2.2.1,(set_far hne).trans h.cq.2.2.2⟩,h.nums.other (fun e => h6 e.symm),fun hm => ?_,h.hQ,h.h1,h.n1⟩
 refine ⟨ga,rfl,(h3.set (i * 5 + 4) _ (by omega)).cong fun q hq => ?_,h4,h5,h6⟩
 unfold updV rowA
 dsimp only
 by_cases e : q = i * 5 + 4
 ·rw [if_pos e,e,show (i * 5 + 4) / 5 = i by omega,show (i * 5 + 4) % 5 = 4 by omega,if_pos rfl]
  rfl
 ·rw [if_neg e]
  by_cases e2 : q / 5 = i
  ·rw [e2,if_pos rfl]
   have : q % 5 = 0 \/ q % 5 = 1 \/ q % 5 = 2 \/ q % 5 = 3:=by omega
   unfold cellA
   rcases this with e3 | e3 | e3 | e3 <;> rw [e3] <;> rfl
  ·rw [if_neg e2]
end
section
variable {w wA : World} {N : Nat} {sta : Int} {fin arcs : Value} {g1 c1 : Nat} {ba : Option Addr} {m bc B : Nat} {xs : List Int} {ars : List ArcD}
theorem arr_of (hB : w.heap.size + 1 < B) {Q : Nat} (hr : wA.ownsRow B 54 5 (.slice ba m bc) m (arcsV ars)) (h0 : 0 < m) (hg1 : g1 < B) (hQ : ∀ b,(Value.slice ba m bc).ownBlock = some b -> b ≠ Q) : ∃ ga,ba = some ⟨ga,0,none⟩ /\ ValsAt wA ga (m * 5) (rowA fun i => ars.getD i a0) /\ w.heap.size + 1 < ga /\ ga ≠ Q /\ ga ≠ g1:=by
 have hr0:=hr
 obtain ⟨_,h⟩:=hr0
 rcases h with ⟨h1,h2⟩ | ⟨g,cap',cur,h1,hg,_⟩
 ·omega
 ·injection h1 with h1 _ h3
  subst h1
  exact ⟨g,rfl,rowA_own hr,by omega,hQ g rfl,by omega⟩
theorem mv_alloc (hR : RW w wA N sta fin arcs) (hz : ZBlock wA (w.heap.size + 1)) (hn : NumsAt wA g1 N xs) (hr : 0 < m -> wA.ownsRow B 54 5 (.slice ba m bc) m (arcsV ars)) (hB : w.heap.size + 1 < B) (hg : w.heap.size + 1 < g1) (hgB : g1 < B) :
  MV w (wA.alloc (.cells #[.int .i64 (N : Int),.int .i64 sta,.slice (some ⟨g1,0,none⟩) N c1,.slice ba m bc] 25)) N sta fin arcs wA.heap.size g1 c1 ba m bc xs (fun i => ars.getD i a0):=by
 have hb:=bel_up (bel_self wA) (.cells #[.int .i64 (N : Int),.int .i64 sta,.slice (some ⟨g1,0,none⟩) N c1,.slice ba m bc] 25)
 have hzl:=heap_lt hz
 have hgl:=hn.lt
 refine ⟨hR.below hb,heap_bel hb hz,cellsF_new wA _ _ _ _ _,hn.below hb,fun h0 => ?_,hzl,hg,by omega⟩
 exact arr_of hB (ownsRow_bel (hr h0) hb) h0 hgB (fun b e => by have:=ownsRow_lt0 (hr h0) b e; omega)
theorem mv_set {Q : Nat} (hR : RW w wA N sta fin arcs) (hz : ZBlock wA (w.heap.size + 1)) (hP : ZBlock wA Q) (hQ : w.heap.size + 1 < Q) (hn : NumsAt wA g1 N xs) (hr : 0 < m -> wA.ownsRow B 54 5 (.slice ba m bc) m (arcsV ars)) (hB : w.heap.size + 1 < B) (hg : w.heap.size + 1 < g1) (hgB : g1 < B) (hgQ : g1 ≠ Q) (hbQ : ∀ b,0 < m -> (Value.slice ba m bc).ownBlock = some b -> b ≠ Q) :
  MV w ((((wA.setCell ⟨Q,0,none⟩ (.int .i64 (N : Int))).setCell ⟨Q,1,none⟩ (.int .i64 sta)).setCell ⟨Q,2,none⟩ (.slice (some ⟨g1,0,none⟩) N c1)).setCell ⟨Q,3,none⟩ (.slice ba m bc)) N sta fin arcs Q g1 c1 ba m bc xs (fun i => ars.getD i a0):=by
 obtain ⟨z0,z1,z2,z3,_,_,_,_⟩:=zfacts hP
 refine ⟨(((hR.set (by omega)).set (by omega)).set (by omega)).set (by omega),zb_set4 hz (by omega) _ _ _ _,set4_cells z0 z1 z2 z3 _ _ _ _,(((hn.other hgQ).other hgQ).other hgQ).other hgQ,fun h0 => ?_,hQ,hg,hgQ⟩
 obtain ⟨ga,e,h1,h2,h3,h4⟩:=arr_of hB (hr h0) h0 hgB (fun b e => hbQ b h0 e) (Q:=Q)
 exact ⟨ga,e,(((h1.other h3).other h3).other h3).other h3,h2,h3,h4⟩
end
end Go.Proofs.Yteehgcbjmdideab
