/- slices.Reverse over numbers of one's own. -/
import Derived.Test.YteehgcbjmdideabVShelfR
import Derived.Test.YteehgcbjmdideabVM01
import Derived.Sort.OwnSortedInts
import Derived.Test.YteehgcbjmdideabVM10
import Derived.Test.YteehgcbjmdideabVM06
import Derived.Test.YteehgcbjmdideabVM05
set_option maxRecDepth 100000
namespace Go.Proofs.Yteehgcbjmdideab
open Go.RowKit Go.Lib Go.Sort
end Go.Proofs.Yteehgcbjmdideab
/- 'wayTo' of the search. -/
namespace Go.Proofs.Yteehgcbjmdideab
open Go.RowKit
attribute [local go_sem ↓] Go.wp_at_zero Go.wp_at_succ
theorem one_int (x : Int) : ∀ u ∈ [Value.int .i64 x],u.oneCell' = true:=by
 intro u hu
 rw [List.mem_singleton] at hu
 subst hu
 rfl
end Go.Proofs.Yteehgcbjmdideab
/- 'Walk' and 'Score' of package score. -/
namespace Go.Proofs.Yteehgcbjmdideab
open Go.RowKit
attribute [local go_sem ↓] Go.wp_at_zero Go.wp_at_succ
end Go.Proofs.Yteehgcbjmdideab
/- 'Walk' at right arguments; 'Score'. -/
namespace Go.Proofs.Yteehgcbjmdideab
open Go.RowKit
attribute [local go_sem ↓] Go.wp_at_zero Go.wp_at_succ
end Go.Proofs.Yteehgcbjmdideab
/- 'Score',and the document's 'CheckScore'. -/
namespace Go.Proofs.Yteehgcbjmdideab
open Go.RowKit
attribute [local go_sem ↓] Go.wp_at_zero Go.wp_at_succ
end Go.Proofs.Yteehgcbjmdideab
/- The document's 'Ended'. -/
namespace Go.Proofs.Yteehgcbjmdideab
open Go.RowKit
attribute [local go_sem ↓] Go.wp_at_zero Go.wp_at_succ
set_option maxHeartbeats 400000 in
theorem plusBig_any (a b : Int) (w : World) (ha2 : a <= 1000000000000000) (hb2 : b <= 1000000000000) :
  Calls Try.prog 105 #[.int .i64 a,.int .i64 b] w fun e w' => e = .returned (.int .i64 (plusC a b)) /\ w' = w:=by
 by_cases h1 : a < 0
 ·go_enter Try.func105,Try.ntmps105
  go_wp2
  go_ret
  exact ⟨ret_int (by unfold plusC; split <;> omega),rfl⟩
 ·by_cases h2 : b < 0
  ·go_enter Try.func105,Try.ntmps105
   go_wp2
   go_ret
   exact ⟨ret_int (by unfold plusC; split <;> omega),rfl⟩
  ·have h1' : 0 <= a:=by omega
   have h2' : 0 <= b:=by omega
   go_enter Try.func105,Try.ntmps105
   go_wp2
   go_ret
   exact ⟨ret_int (by unfold plusC; split <;> omega),rfl⟩
def endD (c fin : List Int) : Nat -> Int
 | 0 => -1
 | k + 1 => lessC (endD c fin k) (plusC (gI c k) (gI fin k))
theorem endD_is (c fin : List Int) (k : Nat) : (endD c fin k = -1 /\ ∀ n,n < k -> ¬ (0 <= gI c n /\ 0 <= gI fin n)) \/ (0 <= endD c fin k /\ (∃ n,n < k /\ 0 <= gI c n /\ 0 <= gI fin n /\ endD c fin k = gI c n + gI fin n) /\ ∀ n,n < k -> 0 <= gI c n -> 0 <= gI fin n -> endD c fin k <= gI c n + gI fin n):=by
 induction k with
 | zero => exact Or.inl ⟨rfl,fun n hn => by omega⟩
 | succ k ih =>
  have e : endD c fin (k + 1) = lessC (endD c fin k) (plusC (gI c k) (gI fin k)):=rfl
  rw [e]
  by_cases hk : 0 <= gI c k /\ 0 <= gI fin k
  ·have hp : plusC (gI c k) (gI fin k) = gI c k + gI fin k:=by unfold plusC; rw [if_neg (by omega)]
   rw [hp]
   right
   rcases ih with ⟨h1,h2⟩ | ⟨h1,⟨n,g1,g2,g3,g4⟩,h3⟩
   ·have hl : lessC (endD c fin k) (gI c k + gI fin k) = gI c k + gI fin k:=by unfold lessC; rw [if_pos (by omega)]
    rw [hl]
    refine ⟨by omega,⟨k,by omega,hk.1,hk.2,rfl⟩,fun n hn a b => ?_⟩
    by_cases e : n = k
    ·subst e; omega
    ·exact absurd ⟨a,b⟩ (h2 n (by omega))
   ·by_cases hlt : endD c fin k < gI c k + gI fin k
    ·have hl : lessC (endD c fin k) (gI c k + gI fin k) = endD c fin k:=by unfold lessC; rw [if_neg (by omega),if_pos (Or.inr hlt)]
     rw [hl]
     refine ⟨h1,⟨n,by omega,g2,g3,g4⟩,fun n hn a b => ?_⟩
     by_cases e : n = k
     ·subst e; omega
     ·exact h3 n (by omega) a b
    ·have hl : lessC (endD c fin k) (gI c k + gI fin k) = gI c k + gI fin k:=by unfold lessC; rw [if_neg (by omega),if_neg (by omega)]
     rw [hl]
     refine ⟨by omega,⟨k,by omega,hk.1,hk.2,rfl⟩,fun n hn a b => ?_⟩
     by_cases e : n = k
     ·subst e; omega
     ·have:=h3 n (by omega) a b; omega
  ·have hp : plusC (gI c k) (gI fin k) = -1:=by unfold plusC; rw [if_pos (by omega)]
   rw [hp]
   have hl : lessC (endD c fin k) (-1) = endD c fin k:=by
    unfold lessC
    rcases ih with ⟨h1,_⟩ | ⟨h1,_⟩
    ·rw [if_pos (by omega),h1]
    ·rw [if_neg (by omega),if_pos (Or.inl (by omega))]
   rw [hl]
   rcases ih with ⟨h1,h2⟩ | ⟨h1,⟨n,g1,g2⟩,h3⟩
   ·refine Or.inl ⟨h1,fun n hn => ?_⟩
    by_cases e : n = k
    ·subst e; exact hk
    ·exact h2 n (by omega)
   ·refine Or.inr ⟨h1,⟨n,by omega,g2⟩,fun n hn a b => ?_⟩
    by_cases e : n = k
    ·subst e; exact absurd ⟨a,b⟩ hk
    ·exact h3 n (by omega) a b
set_option maxHeartbeats 1000000 in
theorem ended_any (f : FstD) (N G cap fb fo fc : Nat) (sta : Int) (arcs : Value) (c : List Int) (w : World) (hN : N <= 200) (hG : NumsAt w G N c) (hf : IntsAt w fb fo N f.final) (h1 : ∀ v,gI c v <= 400001000000000) (h2 : ∀ v,gI f.final v <= 1000000000) :
  Calls Try.prog 81 #[.agg #[.int .i64 (N : Int),.int .i64 sta,.slice (some ⟨fb,fo,none⟩) N fc,arcs],.slice (some ⟨G,0,none⟩) N cap] w fun e w' => e = .returned (.int .i64 (endD c f.final N)) /\ Below w.heap.size w w':=by
 have hb0:=bel_up (bel_self w) (.cells #[.int .i64 (N : Int),.int .i64 sta,.slice (some ⟨fb,fo,none⟩) N fc,arcs] 25)
 have hcf:=cellsF_new w (N : Int) sta (.slice (some ⟨fb,fo,none⟩) N fc) arcs 25
 have HFL : Hid (f.final.length = N):=hf.len
 have HH : Hid ((∀ v,gI c v <= 400001000000000) /\ ∀ v,gI f.final v <= 1000000000):=⟨h1,h2⟩
 have H1 : Hid (∀ wx,Below w.heap.size w wx -> NumsAt wx G N c /\ IntsAt wx fb fo N f.final):=fun wx h => ⟨hG.below h,hf.below h⟩
 clear h1 h2 hG hf
 go_enter Try.func81,Try.ntmps81
 go_wp2
 go_loopw [5,6] (fun t i wr => ∃ k : Nat,k <= N /\ i = .int .i64 k /\ t = .int .i64 (endD c f.final k) /\ CellsF wr w.heap.size (N : Int) sta (.slice (some ⟨fb,fo,none⟩) N fc) arcs /\ Below w.heap.size w wr) (fun _ i _ => N - (intOf i).toNat)
 case atStart => exact ⟨0,Nat.zero_le _,rfl,rfl,hcf,hb0⟩
 case round =>
  obtain ⟨k,hk,rfl,rfl,hC,hb⟩:=hrel
  have hC':=hC
  obtain ⟨q0,q1,q2,q3⟩:=hC
  by_cases hlt : k < N
  ·obtain ⟨g1,g2⟩:=H1.out wr hb
   have c0:=g1.cell k hlt
   have d0:=g2.cell k hlt
   have e2 : f.final.getD k 0 = gI f.final k:=by
    have:=HFL.out
    unfold gI
    simp [List.getD,show k < f.final.length by omega]
   rw [e2] at d0
   obtain ⟨x,hx⟩ : ∃ x,x = gI c k:=⟨_,rfl⟩
   obtain ⟨z,hz⟩ : ∃ z,z = gI f.final k:=⟨_,rfl⟩
   have hx1 : x <= 1000000000000000:=by have:=HH.out.1 k; omega
   have hz1 : z <= 1000000000000:=by have:=HH.out.2 k; omega
   rw [<- hx] at c0
   rw [<- hz] at d0
   have HXZ : Hid (x = gI c k /\ z = gI f.final k):=⟨hx,hz⟩
   have hki : (k : Int) < N:=by omega
   have hpl:=fun W => plusBig_any x z W hx1 hz1
   have hls:=fun W => lessRef_any (endD c f.final k) (plusC x z) W
   clear hx hz g1 g2 e2 hx1 hz1
   go_wp2
   go_quiet (first | (go_at_call 105; refine Calls.quiet_of_same (hpl _)) | (go_at_call 38; refine Calls.quiet_of_same (hls _)))
   go_wp2
   go_roundw
   case rel =>
    refine ⟨k + 1,by omega,by go_num,?_,hC'.below (bel_drewN (bel_self _) _),bel_drewN hb _⟩
    rw [HXZ.out.1,HXZ.out.2]
    rfl
   case measure => simp [intOf]; omega
  ·have hkN : k = N:=by omega
   subst hkN
   go_wp2
   go_ret
   exact ⟨rfl,hb⟩
end Go.Proofs.Yteehgcbjmdideab
/- 'one' of the statements,a transducer of two states and one arc. -/
namespace Go.Proofs.Yteehgcbjmdideab
open Go.RowKit
attribute [local go_sem ↓] Go.wp_at_zero Go.wp_at_succ
def oneD : FstD:=⟨2,0,[-1,1],[⟨0,1,2,1,5⟩]⟩
theorem one_any (w : World) :
  Calls Try.prog 42 #[] w fun e w' => e = .returned (.agg #[.int .i64 2,.int .i64 0,.slice (some ⟨w.heap.size + 1,0,none⟩) 2 2,.slice (some ⟨w.heap.size + 2,0,none⟩) 1 1]) /\
   ISlice w' (.slice (some ⟨w.heap.size + 1,0,none⟩) 2 2) oneD.final /\ ASlice w' (.slice (some ⟨w.heap.size + 2,0,none⟩) 1 1) oneD.arcs /\ Below w.heap.size w w':=by
 have hsz : ∀ (x : World) (o : Obj),(x.alloc o).heap.size = x.heap.size + 1:=fun x o => by simp
 have r1:=(World.ownsRow_lit (base:=0) (e:=3) (size:=1) (w.alloc (.cells #[.int .i64 2,.int .i64 0,.slice (some ⟨w.heap.size + 1,0,none⟩) 2 2,.slice (some ⟨w.heap.size + 1 + 1,0,none⟩) 1 1] 25)) #[.int .i64 (-1),.int .i64 1] 2 (Nat.zero_le _) (by decide) rfl).alloc (.cells #[.int .i64 0,.int .i64 1,.int .i64 2,.int .i64 1,.int .i64 5] 54)
 have r2:=World.ownsRow_lit (base:=0) (e:=54) (size:=5) ((w.alloc (.cells #[.int .i64 2,.int .i64 0,.slice (some ⟨w.heap.size + 1,0,none⟩) 2 2,.slice (some ⟨w.heap.size + 1 + 1,0,none⟩) 1 1] 25)).alloc (.cells #[.int .i64 (-1),.int .i64 1] 3)) #[.int .i64 0,.int .i64 1,.int .i64 2,.int .i64 1,.int .i64 5] 1 (Nat.zero_le _) (by decide) rfl
 rw [hsz] at r1
 rw [hsz,hsz] at r2
 clear hsz
 go_enter Try.func42,Try.ntmps42
 go_wp2
 exact bodyPost_ret (v:=.agg #[.int .i64 2,.int .i64 0,.slice (some ⟨w.heap.size + 1,0,none⟩) 2 2,.slice (some ⟨w.heap.size + 1 + 1,0,none⟩) 1 1]) (by simp [results,Try.results42,go_sem]) rfl ⟨rfl,ownsRow_ints (xs:=oneD.final) r1,ownsRow_arcs (ars:=oneD.arcs) r2,bel_up (bel_up (bel_up (bel_self w) _) _) _⟩
end Go.Proofs.Yteehgcbjmdideab
/- What the document's tables say is the least cost; 'one' and its words. -/
namespace Go.Proofs.Yteehgcbjmdideab
open Go.RowKit
end Go.Proofs.Yteehgcbjmdideab
