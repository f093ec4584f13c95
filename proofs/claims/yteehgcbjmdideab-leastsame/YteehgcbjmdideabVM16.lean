/- 'Subsets' of package oneway. (Made by wip/gen/owg.py.) -/
import Derived.Test.YteehgcbjmdideabVM15
import Derived.Test.YteehgcbjmdideabVM02
import Derived.Maps.Keyed
set_option maxRecDepth 100000
namespace Go.Proofs.Yteehgcbjmdideab
open Go.RowKit
attribute [local go_sem ↓] Go.wp_at_zero Go.wp_at_succ
theorem gDet1 : ∀ args w,(callFunc 30 args).run Try.prog w = .ok (.enter 30 args) w:=enters_of Try.func30 (by kernel_rfl) rfl
theorem det1_any (v : Value) (w : World) : Calls Try.prog 30 #[v] w fun e w' => e = .returned v /\ w' = w:=by
 go_enter Try.func30,Try.ntmps30
 go_wp2
 go_ret
 exact ⟨rfl,rfl⟩
def SubsRes (f : FstD) (N most : Nat) (w : World) (e : Ending) (w' : World) : Prop := ∃ k, (∀ j, j < k → j < (subR f N j).ms.length ∧ (subR f N j).ms.length ≤ most) ∧
  ((k < (subR f N k).ms.length ∧ most < (subR f N k).ms.length ∧ e = .returned (.tuple #[.agg #[.int .i64 0, .int .i64 0, .slice none 0 0, .slice none 0 0], .bool false])) ∨
   (k = (subR f N k).ms.length ∧ ∃ fa fn fc aa an ac, e = .returned (.tuple #[.agg #[.int .i64 (k : Int), .int .i64 0, .slice fa fn fc, .slice aa an ac], .bool true]) ∧ ISlice w' (.slice fa fn fc) (subR f N k).fin ∧ ASlice w' (.slice aa an ac) (subR f N k).ars)) ∧ Below w.heap.size w w'
def onlyL (N s0 : Nat) : List Int:=(List.replicate N (-1)).set s0 0
theorem onlyL_ok (N s0 : Nat) : ∀ x ∈ onlyL N s0,x = -1 \/ (0 <= x /\ x <= 0):=by
 intro x hx
 rcases List.mem_or_eq_of_mem_set hx with hx | hx
 ·exact Or.inl (List.eq_of_mem_replicate hx)
 ·right; omega
theorem onlyL_cheap {N s0 : Nat} (hs : s0 < N) : cheapD (onlyL N s0) ≠ -1:=by
 intro e
 rcases cheapD_what (onlyL N s0) (fun x hx => by have:=onlyL_ok N s0 x hx; omega) with ⟨_,h⟩ | ⟨h,_⟩
 ·have : (0 : Int) ∈ onlyL N s0:=by
   rw [List.mem_iff_getElem]
   exact ⟨s0,by simpa [onlyL] using hs,by simp [onlyL]⟩
  have:=h 0 this
  omega
 ·omega
theorem flat200 {ms : List (List Int)} (h : ∀ l ∈ ms,l.length = 200) {k i : Nat} {l : List Int} {x : Int} (hk : ms[k]? = some l) (hi : i < 200) (hx : x = l.getD i 0) : (ms.flatMap intsW)[k * 200 + i]? = some (.int .i64 x):=by
 induction ms generalizing k with
 | nil => cases hk
 | cons a t ih =>
  have ha : (intsW a).length = 200:=by simp [intsW,h a List.mem_cons_self]
  rw [List.flatMap_cons]
  cases k with
  | zero =>
   have e : a = l:=by simpa using hk
   subst e
   rw [Nat.zero_mul,Nat.zero_add,List.getElem?_append_left (by omega)]
   have h1:=h a List.mem_cons_self
   simp [intsW,hx,List.getD,h1,hi]
  | succ k =>
   rw [List.getElem?_append_right (by omega),ha,show (k + 1) * 200 + i - 200 = k * 200 + i by omega]
   exact ih (fun l hl => h l (List.mem_cons_of_mem _ hl)) (by simpa using hk)
theorem index9 (cs : Array Value) (i : Nat) (v : Value) (W : World) (hi : i < 9) (hc : cs[i]? = some v) : (Instr.index 82 (.agg cs) (.int .i64 (i : Int))).run Try.prog W = .ok v W:=by
 have h0 : Try.prog.underlying 82 = some (.array 9 22):=by kernel_rfl
 have h2 : Try.prog.underlying 22 = some (.slice 3):=by kernel_rfl
 simp [Instr.index,asIntOf,run_underlying h0,Result.andThen]
 rw [if_pos hi]
 simp [part,isAgg,run_underlying h2,hc,Result.andThen]
theorem SubW.at' {w W : World} {B Mb vb nk vc k N : Nat} {ms : List (List Int)} {lk : List Int} (h : SubW w W B Mb (.slice (some ⟨vb,0,none⟩) nk vc) ms) (hlk : ms[k]? = some lk) (hN : N <= 200) : ISlice W (.slice (some ⟨vb,k * 200,none⟩) N 200) (lk.take N):=by
 have hl200 : ∀ l ∈ ms,l.length = 200:=fun l hl => (h.ok l hl).1
 have hlk2:=hl200 lk (List.mem_of_getElem? hlk)
 have hklt:=(List.getElem?_eq_some_iff.1 hlk).1
 refine Or.inr ⟨vb,k * 200,N,200,rfl,⟨by rw [List.length_take,hlk2]; omega,fun i hi => ?_⟩,by unfold maxLen; omega⟩
 obtain ⟨hl0,h1⟩:=h.own
 rcases h1 with ⟨h1,h2⟩ | ⟨g,cap,cur,h1,_,h3,h4,h5,h6,h7⟩
 ·omega
 ·injection h1 with h1 _ h1c
  obtain rfl : vb = g:=by injection h1 with h1; injection h1
  rw [Go.Joins.cell_of_block h3]
  have hfl : (ms.flatMap intsW)[k * 200 + i]? = some (.int .i64 ((lk.take N).getD i 0)):=flat200 hl200 hlk (by omega) (by rw [List.getD_eq_getElem?_getD,List.getElem?_take,if_pos hi,List.getD_eq_getElem?_getD])
  rw [<- h7,List.getElem?_take] at hfl
  split at hfl
  ·simpa using hfl
  ·cases hfl
theorem letS_more {at' : List Int} {N : Nat} {ars : List ArcD} {k i : Nat} {S : List (List Int) × List ArcD} : S.1.length <= (letS at' N ars k i S).1.length /\ (letS at' N ars k i S).1.length <= S.1.length + 1:=by
 unfold letS
 split
 ·omega
 ·exact meetL_len _ _
theorem letsN_more (at' : List Int) (N : Nat) (ars : List ArcD) (k : Nat) (S : List (List Int) × List ArcD) : ∀ i,S.1.length <= (letsN at' N ars k i S).1.length /\ (letsN at' N ars k i S).1.length <= S.1.length + i
 | 0 => ⟨Nat.le_refl _,Nat.le_refl _⟩
 | i + 1 => by
  have h1:=letS_more (at':=at') (N:=N) (ars:=ars) (k:=k) (i:=i) (S:=letsN at' N ars k i S)
  have h2:=letsN_more at' N ars k S i
  unfold letsN
  omega
theorem subR_fin (f : FstD) (N : Nat) : ∀ k,(subR f N k).fin.length = k
 | 0 => rfl
 | k + 1 => by
  unfold subR
  rw [List.length_append,subR_fin f N k]
  rfl
theorem letS_ars (at' : List Int) (N : Nat) (ars : List ArcD) (k i : Nat) (S : List (List Int) × List ArcD) : (letS at' N ars k i S).2.length <= S.2.length + 1:=by
 unfold letS
 split
 ·omega
 ·simp
theorem letsN_ars (at' : List Int) (N : Nat) (ars : List ArcD) (k : Nat) (S : List (List Int) × List ArcD) : ∀ i,(letsN at' N ars k i S).2.length <= S.2.length + i
 | 0 => Nat.le_refl _
 | i + 1 => by
  have h1:=letS_ars at' N ars k i (letsN at' N ars k i S)
  have h2:=letsN_ars at' N ars k S i
  unfold letsN
  omega
theorem subR_ars (f : FstD) (N : Nat) : ∀ k,(subR f N k).ars.length <= 9 * k
 | 0 => Nat.le_refl _
 | k + 1 => by
  have h1:=subR_ars f N k
  have h2:=letsN_ars (atS N (subR f N k) k) N f.arcs k ((subR f N k).ms,(subR f N k).ars) 9
  unfold subR
  dsimp only at h2 ⊢
  omega
theorem subB_zero {N s0 : Nat} (hs : s0 < N) : SubB [padL (onlyL N s0)]:=by
 intro j l hj
 have hlt:=(List.getElem?_eq_some_iff.1 hj).1
 rw [List.length_singleton] at hlt
 have hj0 : j = 0:=by omega
 subst hj0
 have : padL (onlyL N s0) = l:=by simpa using hj
 subst this
 refine ⟨padL_len _,fun x hx => ?_⟩
 have h1:=padL_bound (M:=0) (onlyL_ok N s0) (by omega) (onlyL_cheap hs) x hx
 omega
set_option maxHeartbeats 4000000 in
theorem subsets_any (f : FstD) (N s0 most : Nat) (fin arcs : Value) (w : World) (kf : Fine f) (hN : f.states = (N : Int)) (hs0 : f.start = (s0 : Int)) (hsil : silB f = false) (hf : ISlice w fin f.final) (ha : ASlice w arcs f.arcs) (hmost : most <= 200) :
  Calls Try.prog 29 #[.agg #[.int .i64 (N : Int),.int .i64 (s0 : Int),fin,arcs],.int .i64 (most : Int),.func (.func 30) #[] #[]] w fun e w' => SubsRes f N most w e w':=by
 obtain ⟨fa,fn,fc,rfl,hfl,_⟩:=hf.lenOf
 obtain ⟨aa,m,ac,rfl,hal,_⟩:=ha.lenOf
 have hN1 : 1 <= N:=by have:=kf.s1; omega
 have hN2 : N <= 200:=by have:=kf.s2; omega
 have hsN : s0 < N:=by have:=kf.b2; omega
 have HK : Hid (Fine f /\ f.states = (N : Int) /\ f.start = (s0 : Int) /\ silB f = false):=⟨kf,hN,hs0,hsil⟩
 have HR : Hid (∀ W,Below w.heap.size w W -> ISlice W (.slice fa fn fc) f.final /\ ASlice W (.slice aa m ac) f.arcs):=fun W h => ⟨hf.below h,ha.below h⟩
 have HS0 : Hid ((subR f N 0).ms = [padL (onlyL N s0)] /\ (subR f N 0).fin = [] /\ (subR f N 0).ars = []):=⟨by unfold subR onlyL; rw [hs0,Int.toNat_natCast],rfl,rfl⟩
 have hmm:=@run_makeMap Try.prog
 obtain ⟨Mb,hMb⟩ : ∃ X,X = w.heap.size + 1 + 1:=⟨_,rfl⟩
 obtain ⟨B,hB⟩ : ∃ X,X = w.heap.size + 1 + 1 + 1:=⟨_,rfl⟩
 obtain ⟨A1,hA1⟩ : ∃ W,W = w.alloc (.cells #[.int .i64 (N : Int),.int .i64 (s0 : Int),.slice fa fn fc,.slice aa m ac] 25):=⟨_,rfl⟩
 have s1 : A1.heap.size = w.heap.size + 1:=by rw [hA1]; exact one_size _ _
 obtain ⟨A2,hA2⟩ : ∃ W,W = A1.alloc (.cells #[.int .i64 0,.int .i64 0,.slice none 0 0,.slice none 0 0] 25):=⟨_,rfl⟩
 have s2 : A2.heap.size = w.heap.size + 1 + 1:=by rw [hA2,one_size,s1]
 obtain ⟨A3,hA3⟩ : ∃ W,W = A2.alloc (.map #[] 0):=⟨_,rfl⟩
 have s3 : A3.heap.size = w.heap.size + 1 + 1 + 1:=by rw [hA3,one_size,s2]
 obtain ⟨W0,hW0⟩ : ∃ W,W = A3.alloc (.cells #[.slice none 0 0,.map (some Mb)] 75):=⟨_,rfl⟩
 have s4 : W0.heap.size = w.heap.size + 1 + 1 + 1 + 1:=by rw [hW0,one_size,s3]
 have k1 : Below w.heap.size w A1:=by rw [hA1]; exact bel_up (bel_self _) _
 have k2 : Below A1.heap.size A1 A2:=by rw [hA2]; exact bel_up (bel_self _) _
 have k3 : Below A2.heap.size A2 A3:=by rw [hA3]; exact bel_up (bel_self _) _
 have k4 : Below A3.heap.size A3 W0:=by rw [hW0]; exact bel_up (bel_self _) _
 have k24:=bel_on (bel_on k2 k3) k4
 have hcf0 : CellsF W0 w.heap.size (N : Int) (s0 : Int) (.slice fa fn fc) (.slice aa m ac):=by
  have h1 : CellsF A1 w.heap.size (N : Int) (s0 : Int) (.slice fa fn fc) (.slice aa m ac):=by rw [hA1]; exact cellsF_new _ _ _ _ _ _
  exact h1.below k24
 have hz0 : ZBlock W0 (w.heap.size + 1):=by
  have h1 : ZBlock A2 (w.heap.size + 1):=by unfold ZBlock; rw [hA2,<- s1]; exact heap_alloc_new A1 _
  exact heap_bel (bel_on k3 k4) h1
 have hBb : W0.heap[B]? = some (.cells #[.slice none 0 0,.map (some Mb)] 75 (0,0)):=by rw [hW0,hB,<- s3]; exact heap_alloc_new A3 _
 have hsub0 : SubW w W0 B Mb (.slice none 0 0) []:=by
  refine ⟨bel_on k1 k24,by rw [Go.Joins.cell_of_block hBb]; rfl,by rw [Go.Joins.cell_of_block hBb]; rfl,Go.Joins.unfrozen_of_block hBb 0,⟨#[],0,?_,rfl⟩,World.ownsRow_nil _ _ _ _,by omega,by omega,by omega,by simp [Value.ownBlock],by simp [Value.ownBlock],fun l hl => (by cases hl),List.nodup_nil⟩
  have h1 : A3.heap[Mb]? = some (.map #[] 0):=by rw [hA3,hMb,<- s2]; exact heap_alloc_new A2 _
  exact heap_bel k4 h1
 have hon:=only_any N s0 W0 hN1 hN2 hsN
 have HW0 : Hid (W0 = (((w.alloc (.cells #[.int .i64 (N : Int),.int .i64 (s0 : Int),.slice fa fn fc,.slice aa m ac] 25)).alloc (.cells #[.int .i64 0,.int .i64 0,.slice none 0 0,.slice none 0 0] 25)).alloc (.map #[] 0)).alloc (.cells #[.slice none 0 0,.map (some (w.heap.size + 1 + 1))] 75)):=by rw [<- hA1,<- hA2,<- hA3,<- hMb]; exact hW0
 have HBM : Hid (Mb = w.heap.size + 1 + 1 /\ B = w.heap.size + 1 + 1 + 1):=⟨hMb,hB⟩
 clear hf ha hfl hal kf hN hs0 hsil hA1 hA2 hA3 hW0 k1 k2 k3 k4 k24 hBb s1 s2 s3 hMb hB
 go_enter Try.func29,Try.ntmps29
 go_wp2_with fail
 rw [<- HW0.out,<- HBM.out.2,<- HBM.out.1]
 refine hon.mono ?_
 rintro e w1 ⟨G,rfl,hG,hGlo,hb1⟩
 have hsub1:=hsub0.below hb1
 have hIG : ISlice w1 (.slice (some ⟨G,0,none⟩) N N) (onlyL N s0):=by
  have h1:=NumsAt.of_block hG
  have e1 : ((List.replicate N (-1 : Int)).set s0 0).length = N:=by simp
  rw [e1] at h1
  exact h1.slice N (by unfold maxLen; omega)
 have hme:=meet_walk w B Mb (.slice none 0 0) _ [] (onlyL N s0) w1 hsub1 hIG (by simp [onlyL]; omega) (fun x hx => by have:=onlyL_ok N s0 x hx; omega) (onlyL_cheap hsN) (by decide)
 have hcf1:=hcf0.below hb1
 have hz1:=heap_bel hb1 hz0
 have hb1s:=hb1.size
 have hg1:=gDet1
 clear HW0 hG hGlo hIG hcf0 hz0 hon hsub0 hmm
 go_wp2_with (first | (go_at_call 30; refine (det1_any _ _).mono ?_; rintro e w2 ⟨rfl,hw2⟩; obtain rfl:=hw2.symm))
 refine hme.mono ?_
 rintro e w2 ⟨v,j0,rfl,hsub2,hms,_⟩
 have hBM:=HBM.out
 obtain ⟨W3,hW3⟩ : ∃ W,W = w2.alloc (.cells #[.int .i64 0,.int .i64 0,.slice none 0 0,.slice none 0 0] 25):=⟨_,rfl⟩
 obtain ⟨Q,hQ⟩ : ∃ Q,Q = w2.heap.size:=⟨_,rfl⟩
 have hb3 : Below w2.heap.size w2 W3:=by rw [hW3]; exact bel_up (bel_self _) _
 have hQb : W3.heap[Q]? = some (.cells #[.int .i64 0,.int .i64 0,.slice none 0 0,.slice none 0 0] 25 (0,0)):=by rw [hW3,hQ]; exact heap_alloc_new w2 _
 have hvn : ∀ b,(Value.slice none 0 0).ownBlock ≠ some b:=fun b e => by simp [Value.ownBlock] at e
 have bk : ∀ b,b < w1.heap.size -> b ≠ B -> b ≠ Mb -> w2.heap[b]? = w1.heap[b]?:=fun b h1 h2 h3 => hms.block b h1 h2 h3 (hvn b)
 have bX : w2.heap[w.heap.size]? = w1.heap[w.heap.size]?:=bk _ (by omega) (by omega) (by omega)
 have hGW : GW w W3 N (s0 : Int) (.slice fa fn fc) (.slice aa m ac) B Mb Q v (.slice none 0 0) (.slice none 0 0) (subR f N 0).ms (subR f N 0).fin (subR f N 0).ars:=by
  rw [HS0.out.1,HS0.out.2.1,HS0.out.2.2]
  have hms2:=hms.size
  refine ⟨?_,?_,hsub2.below hb3,by rw [Go.Joins.cell_of_block hQb]; rfl,by rw [Go.Joins.cell_of_block hQb]; rfl,by rw [Go.Joins.cell_of_block hQb]; rfl,by rw [Go.Joins.cell_of_block hQb]; rfl,fun i => Go.Joins.unfrozen_of_block hQb i,World.ownsRow_nil _ _ _ _,World.ownsRow_nil _ _ _ _,by omega,by omega,by omega,fun b hb => ?_,fun b hb => absurd hb (hvn b)⟩
  ·have h1 : CellsF w2 w.heap.size (N : Int) (s0 : Int) (.slice fa fn fc) (.slice aa m ac):=⟨cells_same bX hcf1.1,cells_same bX hcf1.2.1,cells_same bX hcf1.2.2.1,cells_same bX hcf1.2.2.2⟩
   exact h1.below hb3
  ·have h1 : w2.heap[w.heap.size + 1]? = _:=(bk _ (by omega) (by omega) (by omega)).trans hz1
   exact heap_bel hb3 h1
  ·have hlt:=ownsRow_lt0 hsub2.own b hb
   rcases hms.own b hb with e | e
   ·exact absurd e (hvn b)
   ·exact ⟨by omega,by omega,hvn b,hvn b⟩
 have HSB : Hid (SubB (subR f N 0).ms):=by rw [HS0.out.1]; exact subB_zero hsN
 have HW3 : Hid (W3 = w2.alloc (.cells #[.int .i64 0,.int .i64 0,.slice none 0 0,.slice none 0 0] 25) /\ Q = w2.heap.size):=⟨hW3,hQ⟩
 clear hW3 hQ hb3 hQb hvn bk bX hcf1 hz1 hsub2 hms hme hBM hsub1 hb1 hb1s
 go_wp2
 rw [<- HW3.out.1,<- HW3.out.2]
 clear HW3
 go_loopw [10,11,12,13,14,15] (fun t10 _ _ _ _ _ wx => ∃ (k : Nat) (v fv av : Value),k <= (subR f N k).ms.length /\ t10 = .int .i64 (k : Int) /\ GW w wx N (s0 : Int) (.slice fa fn fc) (.slice aa m ac) B Mb Q v fv av (subR f N k).ms (subR f N k).fin (subR f N k).ars /\ SubB (subR f N k).ms /\ (∀ j,j < k -> j < (subR f N j).ms.length /\ (subR f N j).ms.length <= most)) (fun t10 _ _ _ _ _ _ => 201 - (intOf t10).toNat)
 case atStart => exact ⟨0,v,_,_,Nat.zero_le _,rfl,hGW,HSB.out,fun j hj => absurd hj (Nat.not_lt_zero _)⟩
 case round =>
  clear hGW HSB
  obtain ⟨k,v,fv,av,hkn,rfl,hG,hSB,hall⟩:=hrel
  have hkm : k <= most:=by
   by_cases e : k = 0
   ·omega
   ·have:=hall (k - 1) (by omega)
    omega
  have HSB : Hid (SubB (subR f N k).ms):=hSB
  have HALL : Hid (∀ j,j < k -> j < (subR f N j).ms.length /\ (subR f N j).ms.length <= most):=hall
  have hkw : IntKind.i64.wrap ((k : Int) + 1) = (k : Int) + 1:=wrap_in _ (by omega) (by omega)
  obtain ⟨va,vc,rfl⟩:=own_slice hG.sub.own
  obtain ⟨nk,hnk⟩ : ∃ n,n = (subR f N k).ms.length:=⟨_,rfl⟩
  have HNK : Hid (nk = (subR f N k).ms.length):=hnk
  have hb0:=hG.sub.c0
  rw [<- hnk] at hb0 hkn hG
  clear hSB hall hnk
  by_cases hlt : k < nk
  ·have hki : (k : Int) < nk:=by omega
   by_cases hgt : most < nk
   ·have hgi : (most : Int) < nk:=by omega
    have hz:=hG.res
    obtain ⟨z0,z1,z2,z3,y0,y1,y2,y3⟩:=zfacts hz
    have HB : Hid (Below w.heap.size w wr):=hG.sub.bel
    clear hG hz
    go_wp2
    exact bodyPost_ret (v:=.tuple #[.agg #[.int .i64 0,.int .i64 0,.slice none 0 0,.slice none 0 0],.bool false]) (by simp [results,Try.results29,go_sem, *]) rfl ⟨k,HALL.out,Or.inl ⟨by rw [<- HNK.out]; exact hlt,by rw [<- HNK.out]; exact hgt,rfl⟩,bel_set4 HB.out (by omega) _ _ _ _⟩
   ·have hgi : ¬ (most : Int) < nk:=by omega
    have hown:=hG.sub.own
    obtain ⟨vb,rfl⟩ : ∃ b,va = some ⟨b,0,none⟩:=by
     obtain ⟨_,h1⟩:=hown
     rcases h1 with ⟨h1,h2⟩ | ⟨g,cap,cur,h1,_⟩
     ·have:=HNK.out; omega
     ·injection h1 with h1 _ _
      exact ⟨g,h1⟩
    obtain ⟨q0,q1,q2,q3⟩:=hG.cf
    have hN2i : (N : Int) <= 200:=by omega
    go_wp2
    go_quiet (fail)
    obtain ⟨Wa,hWa⟩ : ∃ W,W = wr.drewN nq:=⟨_,rfl⟩
    have hba : Below wr.heap.size wr Wa:=by rw [hWa]; exact bel_drewN (bel_self _) _
    have hGa:=hG.below hba
    have HWA : Hid (Wa = wr.drewN nq):=hWa
    rw [<- hWa]
    clear hWa
    -- what is there behind the k-th of them
    obtain ⟨at',hat⟩ : ∃ l,l = atS N (subR f N k) k:=⟨_,rfl⟩
    have HAT : Hid (at' = atS N (subR f N k) k):=hat
    obtain ⟨lk,hlk⟩ : ∃ l,(subR f N k).ms[k]? = some l:=⟨_,List.getElem?_eq_getElem (by have:=HNK.out; omega)⟩
    have hlb:=HSB.out k lk hlk
    have hatl : at' = lk.take N:=by rw [hat]; unfold atS; rw [List.getD_eq_getElem?_getD,hlk]; rfl
    have hatn : at'.length = N:=by rw [hatl,List.length_take,hlb.1]; omega
    have HATB : Hid (∀ s,gI at' s = -1 \/ (0 <= gI at' s /\ gI at' s <= (k : Int) * 1000000000)):=fun s => by
     unfold gI
     rw [List.getD_eq_getElem?_getD]
     rcases e : at'[s]? with _ | y
     ·exact Or.inl rfl
     ·have : y ∈ lk:=by
       have h1:=List.mem_of_getElem? e
       rw [hatl] at h1
       exact List.mem_of_mem_take h1
      exact hlb.2 y this
    have HLK : Hid ((subR f N k).ms[k]? = some lk /\ at' = lk.take N):=⟨hlk,hatl⟩
    have hIat : ISlice Wa (.slice (some ⟨vb,k * 200,none⟩) N 200) at':=by
     rw [hatl]
     exact hGa.sub.at' hlk hN2
    have hbnd : ∀ s,-1 <= gI at' s /\ gI at' s <= 300000000000:=fun s => by
     have:=HATB.out s
     omega
    clear hat hatl hlk hlb
    obtain ⟨f1,f3,rfl⟩:=own_slice hGa.fo
    obtain ⟨fl,hfl⟩ : ∃ n,n = (subR f N k).fin.length:=⟨_,rfl⟩
    have HFL : Hid (fl = (subR f N k).fin.length):=hfl
    have hfl2 : fl <= 200:=by rw [hfl,subR_fin]; omega
    rw [<- hfl] at hGa
    obtain ⟨Wb,hWb⟩ : ∃ W,W = Wa.drew:=⟨_,rfl⟩
    have hbb : Below Wa.heap.size Wa Wb:=by rw [hWb]; exact (bel_self Wa).drew
    have hGb:=hGa.below hbb
    have HWB : Hid (Wb = Wa.drew):=hWb
    have hIatb:=hIat.below hbb
    have hbelb:=hGb.sub.bel
    have hend:=end_any f at' (.slice fa fn fc) (.slice aa m ac) _ Wb HK.out.1 (HR.out Wb hbelb).1 hIatb (by rw [hatn]; have:=HK.out.1.len; have:=HK.out.2.1; omega) hbnd
    rw [HK.out.2.1,HK.out.2.2.1] at hend
    obtain ⟨x,hx⟩ : ∃ x,x = ownEnd f at':=⟨_,rfl⟩
    have HX : Hid (x = ownEnd f at'):=hx
    rw [<- hx] at hend
    obtain ⟨i0,hi,hz0,hz1,hz2⟩:=info_parts Try.info3
    have hS0 : (fun wx : World => wx.cell? ⟨Q,2,none⟩ = some (.slice f1 fl f3) /\ CellsF wx w.heap.size (N : Int) (s0 : Int) (.slice fa fn fc) (.slice aa m ac)) Wb:=⟨hGb.q2,hGb.cf⟩
    clear hWb hfl hx hG hown q0 q1 q2 q3 HWA hba hIatb hbb
    go_wp2
    refine wp_region_noPanic ?_
    refine wp_region_U (fun wx : World => wx.cell? ⟨Q,2,none⟩ = some (.slice f1 fl f3) /\ CellsF wx w.heap.size (N : Int) (s0 : Int) (.slice fa fn fc) (.slice aa m ac)) 8 (by kernel_rfl) (by rw [<- HWB.out]; exact hS0) (fun _ => ?_)
    rw [<- HWB.out]
    clear HWB
    refine tkU (i:=0) (v:=.pointer (some ⟨Q,2,none⟩)) rfl (by kernel_rfl) (fun _ _ _ h => h) (by rfl) hS0 (fun wl hSw => ?_) ?_
    ·obtain ⟨z0,z1,z2,z3,z4⟩:=hSw; go_simp
    refine tkU (i:=1) (v:=.slice f1 fl f3) rfl (by kernel_rfl) (fun _ _ _ h => h) (by rfl) hS0 (fun wl hSw => ?_) ?_
    ·obtain ⟨z0,z1,z2,z3,z4⟩:=hSw; go_simp
    refine tkU (i:=2) (v:=.agg #[.int .i64 (N : Int),.int .i64 (s0 : Int),.slice fa fn fc,.slice aa m ac]) rfl (by kernel_rfl) (fun _ _ _ h => h) (by rfl) hS0 (fun wl hSw => ?_) ?_
    ·obtain ⟨z0,z1,z2,z3,z4⟩:=hSw; go_simp
    refine tkU (i:=3) (v:=.slice (some ⟨vb,k * 200,none⟩) N 200) rfl (by kernel_rfl) (fun _ _ _ h => h) (by rfl) hS0 (fun wl hSw => ?_) ?_
    ·obtain ⟨z0,z1,z2,z3,z4⟩:=hSw; go_simp
    refine wpAnyU_one (i:=4) rfl (by kernel_rfl) (fun Kc hKc => ?_)
    go_simp
    refine hend.mono ?_
    rintro e w4 ⟨rfl,hb4⟩
    have hG4:=hGb.below hb4
    have hS4 : (fun wx : World => wx.cell? ⟨Q,2,none⟩ = some (.slice f1 fl f3) /\ CellsF wx w.heap.size (N : Int) (s0 : Int) (.slice fa fn fc) (.slice aa m ac)) w4:=⟨hG4.q2,hG4.cf⟩
    have hbE : Below w4.heap.size w4 (w4.alloc (.cells #[.int .i64 x] 3)):=bel_up (bel_self _) _
    have hG5:=hG4.below hbE
    have hS5 : (fun wx : World => wx.cell? ⟨Q,2,none⟩ = some (.slice f1 fl f3) /\ CellsF wx w.heap.size (N : Int) (s0 : Int) (.slice fa fn fc) (.slice aa m ac)) (w4.alloc (.cells #[.int .i64 x] 3)):=⟨hG5.q2,hG5.cf⟩
    have hown:=hG5.fo
    rw [<- HFL.out] at hown
    have hQl:=cell_lt hG4.q0
    have HFIN : Hid (∀ fv' w6,w6.ownsRow (Q + 1) 3 1 fv' (fl + 1) (intsW (subR f N k).fin ++ [.int .i64 x]) -> (w4.alloc (.cells #[.int .i64 x] 3)).grownBy w6 (Value.slice f1 fl f3).ownBlock -> (fv'.ownBlock = (Value.slice f1 fl f3).ownBlock \/ fv'.ownBlock = some (w4.alloc (.cells #[.int .i64 x] 3)).heap.size) -> GW w (w6.setCell ⟨Q,2,none⟩ fv') N (s0 : Int) (.slice fa fn fc) (.slice aa m ac) B Mb Q (.slice (some ⟨vb,0,none⟩) nk vc) fv' av (subR f N k).ms ((subR f N k).fin ++ [x]) (subR f N k).ars /\ (fun wx : World => wx.cell? ⟨Q,2,none⟩ = some (.slice f1 fl f3) /\ CellsF wx w.heap.size (N : Int) (s0 : Int) (.slice fa fn fc) (.slice aa m ac)) w6 /\ w6.frozen? ⟨Q,2,none⟩ = false):=fun fv' w6 h1 h2 h3 => by
     have hne : ∀ b,b <= Q -> some b ≠ (Value.slice f1 fl f3).ownBlock:=fun b hb e => by have:=own_base hown b e.symm; omega
     have hXl:=cell_lt hG5.cf.1
     have hXQ : w.heap.size <= Q:=by have:=hG5.hM; have:=hG5.hB; have:=hG5.hQ; omega
     refine ⟨hG5.final h2 (by rw [<- HFL.out]; exact h1) h3,⟨cells_same (h2.block Q (cell_lt hG5.q0) (hne Q (Nat.le_refl _))) hG5.q2,?_⟩,frz_block (h2.block Q (cell_lt hG5.q0) (hne Q (Nat.le_refl _))) (hG5.qf 2)⟩
     have bX:=h2.block w.heap.size hXl (hne _ hXQ)
     exact ⟨cells_same bX hG5.cf.1,cells_same bX hG5.cf.2.1,cells_same bX hG5.cf.2.2.1,cells_same bX hG5.cf.2.2.2⟩
    have hIat4:=hIat
    clear hend hS0 hIat4
    refine hKc.out _ _ ⟨fun _ => hS4,?_⟩
    clear hKc Kc
    go_simp
    refine wpAnyU_one (i:=5) rfl (by kernel_rfl) (fun Kc hKc => ?_)
    go_simp
    refine hKc.out _ _ ⟨fun _ => hS5,?_⟩
    clear hKc Kc
    go_simp
    refine wpAnyU_one (i:=6) rfl (by kernel_rfl) (fun Kc hKc => ?_)
    refine if_wanted rfl (wp_app_at _ _ 22 rfl (Q + 1) 3 i0 (.int .i64 0) 1 8 Try.underlying22 hi hz0 hz1 hz2 rfl (by decide) (.slice f1 fl f3) fl _ rfl hown ⟨w4.heap.size,0,none⟩ 1 1 [.int .i64 x] rfl rfl (cells_new w4 #[.int .i64 x] 3 _ rfl) (one_int _) (by unfold maxLen; omega) (by omega) (by rw [one_size]; omega) ?_)
    intro fv' w6 hown' hgrow hvv
    obtain ⟨h1',h3',rfl⟩:=own_slice hown'
    obtain ⟨hG6,hS6,hfz⟩:=HFIN.out _ w6 hown' hgrow hvv
    clear hown' hgrow hvv hown HFIN hS4 hS5 hbE hG5
    refine hKc.out _ _ ⟨fun _ => hS6,?_⟩
    clear hKc Kc
    refine wpAnyU_one (i:=7) rfl (by kernel_rfl) (fun Kc hKc => ?_)
    go_simp
    refine hKc.out _ _ ⟨fun _ => hS6,?_⟩
    clear hKc Kc
    have z3:=hS6.1
    refine wpAnyU_one (i:=8) rfl (by kernel_rfl) (fun Kc hKc => ?_)
    go_simp
    refine hKc.out _ _ ⟨fun h => absurd rfl h,?_⟩
    clear hKc Kc
    refine wpAnyU_done (by kernel_rfl) ?_ _
    refine NoPanic.normal ?_
    clear z3 hfz hS6
    obtain ⟨Wc,hWc⟩ : ∃ W,W = w6.setCell ⟨Q,2,none⟩ (.slice h1' (fl + 1) h3'):=⟨_,rfl⟩
    have HWC : Hid (Wc = w6.setCell ⟨Q,2,none⟩ (.slice h1' (fl + 1) h3')):=hWc
    rw [<- hWc] at hG6
    rw [<- hWc]
    clear hWc
    have hIc : ISlice Wc (.slice (some ⟨vb,k * 200,none⟩) N 200) at':=by
     rw [HLK.out.2]
     exact hG6.sub.at' HLK.out.1 hN2
    have hbeh:=behind_any f N at' _ _ _ Wc HK.out.1 HK.out.2.1 HK.out.2.2.2 (HR.out Wc hG6.sub.bel).2 hIc hatn hbnd fa fn fc rfl
    rw [HK.out.2.2.1] at hbeh
    obtain ⟨q0,q1,q2,q3⟩:=hG6.cf
    obtain ⟨d0,d1,d2,d3⟩ : CellsF (w6.setCell ⟨Q,2,none⟩ (.slice h1' (fl + 1) h3')) w.heap.size (N : Int) (s0 : Int) (.slice fa fn fc) (.slice aa m ac):=by rw [<- HWC.out]; exact hG6.cf
    clear hIc hIat hbelb
    go_wp2_with fail
    refine hbeh.mono ?_
    rintro e w7 ⟨G,rfl,hrows,hb7⟩
    have hG7:=hG6.below hb7
    have HRW : Hid (∀ j,j < 9 -> NumsAt w7 (G j) N (behL at' N f.arcs j) /\ Wc.heap.size <= G j):=hrows
    clear hbeh q0 q1 q2 q3 d0 d1 d2 d3 hrows HWC
    go_wp2
    obtain ⟨va9,hva9⟩ : ∃ V : Value,V = .agg #[.slice (some ⟨G 0,0,none⟩) N N,.slice (some ⟨G 1,0,none⟩) N N,.slice (some ⟨G 2,0,none⟩) N N,.slice (some ⟨G 3,0,none⟩) N N,.slice (some ⟨G 4,0,none⟩) N N,.slice (some ⟨G 5,0,none⟩) N N,.slice (some ⟨G 6,0,none⟩) N N,.slice (some ⟨G 7,0,none⟩) N N,.slice (some ⟨G 8,0,none⟩) N N]:=⟨_,rfl⟩
    have hixx : ∀ (i : Nat) (W : World),i < 9 -> (Instr.index 82 va9 (.int .i64 (i : Int))).run Try.prog W = .ok (.slice (some ⟨G i,0,none⟩) N N) W:=by
     intro i W hi
     rw [hva9]
     have hc : i = 0 \/ i = 1 \/ i = 2 \/ i = 3 \/ i = 4 \/ i = 5 \/ i = 6 \/ i = 7 \/ i = 8:=by omega
     refine index9 _ i _ W hi ?_
     rcases hc with rfl | rfl | rfl | rfl | rfl | rfl | rfl | rfl | rfl <;> rfl
    have HIX : Hid (∀ (i : Nat) (W : World),i < 9 -> (Instr.index 82 va9 (.int .i64 (i : Int))).run Try.prog W = .ok (.slice (some ⟨G i,0,none⟩) N N) W):=hixx
    rw [<- hva9]
    clear hva9 hixx
    obtain ⟨g1,g3,rfl⟩:=own_slice hG7.ao
    obtain ⟨gl,hgl⟩ : ∃ n,n = (subR f N k).ars.length:=⟨_,rfl⟩
    rw [<- hgl] at hG7 hG6
    have HST : Hid (GW w w7 N (s0 : Int) (.slice fa fn fc) (.slice aa m ac) B Mb Q (.slice (some ⟨vb,0,none⟩) nk vc) (.slice h1' (fl + 1) h3') (.slice g1 gl g3) (letsN at' N f.arcs k 0 ((subR f N k).ms,(subR f N k).ars)).1 ((subR f N k).fin ++ [x]) (letsN at' N f.arcs k 0 ((subR f N k).ms,(subR f N k).ars)).2 /\ (∀ j,j < 9 -> NumsAt w7 (G j) N (behL at' N f.arcs j) /\ Q < G j /\ (Value.slice (some ⟨vb,0,none⟩) nk vc).ownBlock ≠ some (G j) /\ (Value.slice g1 gl g3).ownBlock ≠ some (G j))):=⟨hG7,fun j hj => by
     have h1:=HRW.out j hj
     have h2:=cell_lt hG6.q0
     refine ⟨h1.1,by omega,fun e => ?_,fun e => ?_⟩
     ·have:=ownsRow_lt0 hG6.sub.own _ e; omega
     ·have:=ownsRow_lt0 hG6.ao _ e; omega⟩
    have HBB : Hid (∀ j,∀ y ∈ behL at' N f.arcs j,y = -1 \/ (0 <= y /\ y <= (k : Int) * 1000000000 + 1000000000)):=fun j => behL_bound HATB.out (fun a ha => by
     have h4:=(HK.out.1.arcs a ha).wt
     simp [inB] at h4
     exact h4) j
    have HSR : Hid ((subR f N (k + 1)).ms = (letsN at' N f.arcs k 9 ((subR f N k).ms,(subR f N k).ars)).1 /\ (subR f N (k + 1)).fin = (subR f N k).fin ++ [x] /\ (subR f N (k + 1)).ars = (letsN at' N f.arcs k 9 ((subR f N k).ms,(subR f N k).ars)).2):=by
     rw [HX.out,HAT.out]
     exact ⟨rfl,rfl,rfl⟩
    obtain ⟨iA,hiA,hzA0,hzA1,hzA2⟩:=info_parts Try.info54
    have HARL : Hid (∀ i,(letsN at' N f.arcs k i ((subR f N k).ms,(subR f N k).ars)).2.length <= 9 * k + i):=fun i => by
     have h1:=letsN_ars at' N f.arcs k ((subR f N k).ms,(subR f N k).ars) i
     have h2:=subR_ars f N k
     dsimp only at h1
     omega
    have HMSL : Hid (∀ i,nk <= (letsN at' N f.arcs k i ((subR f N k).ms,(subR f N k).ars)).1.length /\ (letsN at' N f.arcs k i ((subR f N k).ms,(subR f N k).ars)).1.length <= nk + i):=fun i => by
     rw [HNK.out]
     exact letsN_more at' N f.arcs k ((subR f N k).ms,(subR f N k).ars) i
    clear hgl hG7 hG6 hGa hGb hG4 hb4 hb7 HRW hbnd hi hz0 hz1 hz2 hQl hb0
    go_loopw [12,13,14,15,57] (fun _ _ _ _ t57 wx => ∃ (i : Nat) (v av : Value),i <= 9 /\ t57 = .int .i64 (i : Int) /\ GW w wx N (s0 : Int) (.slice fa fn fc) (.slice aa m ac) B Mb Q v (.slice h1' (fl + 1) h3') av (letsN at' N f.arcs k i ((subR f N k).ms,(subR f N k).ars)).1 ((subR f N k).fin ++ [x]) (letsN at' N f.arcs k i ((subR f N k).ms,(subR f N k).ars)).2 /\ SubB (letsN at' N f.arcs k i ((subR f N k).ms,(subR f N k).ars)).1 /\ (∀ j,j < 9 -> NumsAt wx (G j) N (behL at' N f.arcs j) /\ Q < G j /\ v.ownBlock ≠ some (G j) /\ av.ownBlock ≠ some (G j))) (fun _ _ _ _ t57 _ => 9 - (intOf t57).toNat)
    case atStart => exact ⟨0,_,_,Nat.zero_le _,rfl,HST.out.1,HSB.out,HST.out.2⟩
    case round =>
     clear HST
     obtain ⟨i,v,av,hi9,rfl,hG,hSB,hrow⟩:=hrel
     have hiw : IntKind.i64.wrap ((i : Int) + 1) = (i : Int) + 1:=wrap_in _ (by omega) (by omega)
     have HSBI : Hid (SubB (letsN at' N f.arcs k i ((subR f N k).ms,(subR f N k).ars)).1):=hSB
     have HROW : Hid (∀ j,j < 9 -> NumsAt wr (G j) N (behL at' N f.arcs j) /\ Q < G j /\ v.ownBlock ≠ some (G j) /\ av.ownBlock ≠ some (G j)):=hrow
     clear hSB hrow
     by_cases hli : i < 9
     ·have hii : (i : Int) < 9:=by omega
      have hix:=HIX.out i wr hli
      have hnum:=(HROW.out i hli).1
      obtain ⟨Gi,hGi⟩ : ∃ g,g = G i:=⟨_,rfl⟩
      rw [<- hGi] at hix hnum
      clear hGi
      have hIc : ISlice wr (.slice (some ⟨Gi,0,none⟩) N N) (behL at' N f.arcs i):=hnum.slice N (by unfold maxLen; omega)
      have hch:=cheapest_any (behL at' N f.arcs i) _ wr hIc (by rw [behL_len]; omega)
      obtain ⟨q,hq⟩ : ∃ q,q = cheapD (behL at' N f.arcs i):=⟨_,rfl⟩
      have HQ : Hid (q = cheapD (behL at' N f.arcs i)):=hq
      rw [<- hq] at hch
      clear hnum
      by_cases hq1 : q = -1
      ·subst hq1
       have HN : Hid ((letsN at' N f.arcs k (i + 1) ((subR f N k).ms,(subR f N k).ars)) = (letsN at' N f.arcs k i ((subR f N k).ms,(subR f N k).ars))):=by
        show letS at' N f.arcs k i (letsN at' N f.arcs k i ((subR f N k).ms,(subR f N k).ars)) = _
        unfold letS
        rw [if_pos hq.symm]
       have HALL2 : Hid (GW w wr N (s0 : Int) (.slice fa fn fc) (.slice aa m ac) B Mb Q v (.slice h1' (fl + 1) h3') av (letsN at' N f.arcs k (i + 1) ((subR f N k).ms,(subR f N k).ars)).1 ((subR f N k).fin ++ [x]) (letsN at' N f.arcs k (i + 1) ((subR f N k).ms,(subR f N k).ars)).2 /\ SubB (letsN at' N f.arcs k (i + 1) ((subR f N k).ms,(subR f N k).ars)).1):=by rw [HN.out]; exact ⟨hG,HSBI.out⟩
       clear hq hG hIc
       go_wp2_with (go_at_call 63; refine hch.mono ?_; rintro e w2 ⟨rfl,hw2⟩; obtain rfl:=hw2.symm)
       go_roundw
       case rel => exact ⟨i + 1,v,av,by omega,by go_num,HALL2.out.1,HALL2.out.2,HROW.out⟩
       case measure => simp [intOf]; omega
      ·have hq1b : (q != -1) = true:=by simpa using hq1
       have hqn : ¬ cheapD (behL at' N f.arcs i) = -1:=by rw [<- hq]; exact hq1
       have hpr : PrOk (behL at' N f.arcs i):=fun y hy => by
        have:=HBB.out i y hy
        omega
       have hml:=HMSL.out i
       have hme:=meet_walk w B Mb v _ (letsN at' N f.arcs k i ((subR f N k).ms,(subR f N k).ars)).1 (behL at' N f.arcs i) wr hG.sub hIc (by rw [behL_len]; omega) hpr hqn (by omega)
       have hg1:=gDet1
       have HG : Hid (GW w wr N (s0 : Int) (.slice fa fn fc) (.slice aa m ac) B Mb Q v (.slice h1' (fl + 1) h3') av (letsN at' N f.arcs k i ((subR f N k).ms,(subR f N k).ars)).1 ((subR f N k).fin ++ [x]) (letsN at' N f.arcs k i ((subR f N k).ms,(subR f N k).ars)).2):=hG
       have HQN : Hid (¬ cheapD (behL at' N f.arcs i) = -1):=hqn
       clear hIc hpr hG hq hqn
       go_wp2_with (first | (go_at_call 63; refine hch.mono ?_; rintro e w2 ⟨rfl,hw2⟩; obtain rfl:=hw2.symm) | (go_at_call 30; refine (det1_any _ _).mono ?_; rintro e w2 ⟨rfl,hw2⟩; obtain rfl:=hw2.symm))
       refine hme.mono ?_
       rintro e w2 ⟨v',j,rfl,hsub2,hms2,hj⟩
       rw [<- HQ.out]
       have hG2:=HG.out.meet hms2 hsub2
       obtain ⟨g1',g3',rfl⟩:=own_slice hG2.ao
       obtain ⟨gl',hgl'⟩ : ∃ n,n = (letsN at' N f.arcs k i ((subR f N k).ms,(subR f N k).ars)).2.length:=⟨_,rfl⟩
       have HGL : Hid (gl' = (letsN at' N f.arcs k i ((subR f N k).ms,(subR f N k).ars)).2.length):=hgl'
       have hgl9 : gl' <= 5000:=by
        have:=HARL.out i
        omega
       rw [<- hgl'] at hG2 HG
       have HROW' : Hid (∀ j,j < 9 -> NumsAt wr (G j) N (behL at' N f.arcs j) /\ Q < G j /\ v.ownBlock ≠ some (G j) /\ (Value.slice g1' gl' g3').ownBlock ≠ some (G j)):=by rw [hgl']; exact HROW.out
       have d3:=hG2.q3
       obtain ⟨ob,hob⟩ : ∃ o : Obj,o = .cells #[.int .i64 (k : Int),.int .i64 ((i : Int) + 1),.int .i64 ((i : Int) + 1),.int .i64 (j : Int),.int .i64 q] 54:=⟨_,rfl⟩
       have hbE : Below w2.heap.size w2 (w2.alloc ob):=bel_up (bel_self _) _
       have hG3:=hG2.below hbE
       have hown2:=hG3.ao
       rw [<- hgl'] at hown2
       have hQ2:=cell_lt hG2.q0
       have HLI : Hid ((letsN at' N f.arcs k (i + 1) ((subR f N k).ms,(subR f N k).ars)) = (meetL (letsN at' N f.arcs k i ((subR f N k).ms,(subR f N k).ars)).1 (padL (behL at' N f.arcs i)),(letsN at' N f.arcs k i ((subR f N k).ms,(subR f N k).ars)).2 ++ [⟨(k : Int),(i : Int) + 1,(i : Int) + 1,(j : Int),q⟩])):=by
        show letS at' N f.arcs k i (letsN at' N f.arcs k i ((subR f N k).ms,(subR f N k).ars)) = _
        unfold letS
        rw [if_neg HQN.out,HQ.out,<- nodupL_get hsub2.nd hj (idxL_at (meetL_mem _ _))]
       have HSB2 : Hid (SubB (meetL (letsN at' N f.arcs k i ((subR f N k).ms,(subR f N k).ars)).1 (padL (behL at' N f.arcs i)))):=meetL_B HSBI.out (by have:=HMSL.out i; omega) (padL_len _) (padL_bound (HBB.out i) (by omega) HQN.out)
       have HARM : Hid (∀ av' w4,w4.ownsRow (Q + 1) 54 5 av' (gl' + 1) (arcsV (letsN at' N f.arcs k i ((subR f N k).ms,(subR f N k).ars)).2 ++ [.int .i64 (k : Int),.int .i64 ((i : Int) + 1),.int .i64 ((i : Int) + 1),.int .i64 (j : Int),.int .i64 q]) -> (w2.alloc ob).grownBy w4 (Value.slice g1' gl' g3').ownBlock -> (av'.ownBlock = (Value.slice g1' gl' g3').ownBlock \/ av'.ownBlock = some (w2.alloc ob).heap.size) -> (GW w (w4.setCell ⟨Q,3,none⟩ av') N (s0 : Int) (.slice fa fn fc) (.slice aa m ac) B Mb Q v' (.slice h1' (fl + 1) h3') av' (letsN at' N f.arcs k (i + 1) ((subR f N k).ms,(subR f N k).ars)).1 ((subR f N k).fin ++ [x]) (letsN at' N f.arcs k (i + 1) ((subR f N k).ms,(subR f N k).ars)).2 /\ SubB (letsN at' N f.arcs k (i + 1) ((subR f N k).ms,(subR f N k).ars)).1 /\ (∀ j,j < 9 -> NumsAt (w4.setCell ⟨Q,3,none⟩ av') (G j) N (behL at' N f.arcs j) /\ Q < G j /\ v'.ownBlock ≠ some (G j) /\ av'.ownBlock ≠ some (G j))) /\ w4.cell? ⟨Q,3,none⟩ = some (.slice g1' gl' g3') /\ w4.frozen? ⟨Q,3,none⟩ = false):=fun av' w4 h1 h2 h3 => by
        have hne : ∀ b,b <= Q -> some b ≠ (Value.slice g1' gl' g3').ownBlock:=fun b hb e => by have:=own_base hown2 b e.symm; omega
        have bQ:=h2.block Q (cell_lt hG3.q0) (hne Q (Nat.le_refl _))
        have hs3 : (w2.alloc ob).heap.size = w2.heap.size + 1:=one_size _ _
        have hmsz:=hms2.size
        refine ⟨⟨?_,?_,fun j' hj' => ?_⟩,cells_same bQ hG3.q3,frz_block bQ (hG3.qf 3)⟩
        ·rw [HLI.out]
         exact hG3.arc (a:=⟨(k : Int),(i : Int) + 1,(i : Int) + 1,(j : Int),q⟩) h2 (by rw [<- HGL.out]; exact h1) h3
        ·rw [HLI.out]
         exact HSB2.out
        ·obtain ⟨r1,r2,r3,r4⟩:=HROW'.out j' hj'
         have hlt:=r1.lt
         have hBQ:=hG3.hQ
         have hMB:=hG3.hB
         have n2 : NumsAt w2 (G j') N (behL at' N f.arcs j'):=r1.block (hms2.block (G j') hlt (by omega) (by omega) r3) (by omega)
         have n3:=n2.below hbE
         have n4 : NumsAt w4 (G j') N (behL at' N f.arcs j'):=n3.block (h2.block (G j') n3.lt (fun e => r4 e.symm)) (by have:=h2.size; have:=n3.lt; omega)
         refine ⟨n4.other (by omega),r2,fun e => ?_,fun e => ?_⟩
         ·rcases hms2.own _ e with e | e
          ·exact r3 e
          ·omega
         ·rcases h3 with h3 | h3
          ·rw [h3] at e; exact r4 e
          ·rw [h3] at e
           injection e with e
           omega
       rw [hob] at hown2 HARM
       clear hob hbE hG3 hG2 hgl' hj hsub2 hms2 hme hch hg1
       go_wp2_with (at_builtin; refine wpList_append_own_at _ rfl _ _ 23 rfl (Q + 1) 54 iA _ 5 40 Try.underlying23 hiA hzA0 hzA1 hzA2 rfl (by decide) (.slice g1' gl' g3') gl' _ rfl hown2 ⟨w2.heap.size,0,none⟩ 1 1 [.int .i64 (k : Int),.int .i64 ((i : Int) + 1),.int .i64 ((i : Int) + 1),.int .i64 (j : Int),.int .i64 q] rfl rfl (cells_new _ #[.int .i64 (k : Int),.int .i64 ((i : Int) + 1),.int .i64 ((i : Int) + 1),.int .i64 (j : Int),.int .i64 q] 54 w2.heap.size rfl) (oneCell_arc ⟨(k : Int),(i : Int) + 1,(i : Int) + 1,(j : Int),q⟩) (by unfold maxLen; omega) (by omega) (by rw [one_size]; omega) ?_; intro av' w4 hown' hgrow _ hvv; obtain ⟨p1,p3,rfl⟩:=own_slice hown'; obtain ⟨HF,z3,z4⟩:=HARM.out _ w4 hown' hgrow hvv; have HFH : Hid _:=HF; clear hown' hgrow hvv hown2 HARM HF)
       go_roundw
       case rel => exact ⟨i + 1,v',_,by omega,by go_num,HFH.out.1,HFH.out.2.1,HFH.out.2.2⟩
       case measure => simp [intOf]; omega
     ·obtain rfl : i = 9:=by omega
      have hle : k + 1 <= (subR f N (k + 1)).ms.length:=by
       rw [HSR.out.1]
       have:=HMSL.out 9
       omega
      have HFIN : Hid (k + 1 <= (subR f N (k + 1)).ms.length /\ GW w wr N (s0 : Int) (.slice fa fn fc) (.slice aa m ac) B Mb Q v (.slice h1' (fl + 1) h3') av (subR f N (k + 1)).ms (subR f N (k + 1)).fin (subR f N (k + 1)).ars /\ SubB (subR f N (k + 1)).ms /\ (∀ j,j < k + 1 -> j < (subR f N j).ms.length /\ (subR f N j).ms.length <= most)):=by
       refine ⟨hle,?_,by rw [HSR.out.1]; exact HSBI.out,fun j hj => ?_⟩
       ·rw [HSR.out.1,HSR.out.2.1,HSR.out.2.2]
        exact hG
       ·by_cases e : j = k
        ·subst e
         rw [<- HNK.out]
         omega
        ·exact HALL.out j (by omega)
      clear hG hle
      go_wp2
      go_roundw
      case rel => exact ⟨k + 1,v,_,av,HFIN.out.1,by go_num,HFIN.out.2.1,HFIN.out.2.2.1,HFIN.out.2.2.2⟩
      case measure => simp [intOf]; omega
  ·obtain rfl : nk = k:=by omega
   have hkl : ¬ (nk : Int) < nk:=by omega
   obtain ⟨z0,z1,z2,z3,y0,y1,y2,y3⟩:=zfacts hG.res
   obtain ⟨f1,f3,rfl⟩:=own_slice hG.fo
   obtain ⟨g1,g3,rfl⟩:=own_slice hG.ao
   obtain ⟨f2,hf2⟩ : ∃ n,n = (subR f N nk).fin.length:=⟨_,rfl⟩
   obtain ⟨g2,hg2⟩ : ∃ n,n = (subR f N nk).ars.length:=⟨_,rfl⟩
   rw [<- hf2,<- hg2] at hG
   have d0:=hG.q0
   have d1:=hG.q1
   have d2:=hG.q2
   have d3:=hG.q3
   have e0:=hG.qf 0
   have hQX : Q ≠ w.heap.size + 1:=by have:=hG.hM; have:=hG.hB; have:=hG.hQ; omega
   have hBQ : B ≠ Q:=by have:=hG.hQ; omega
   have HG : Hid (GW w wr N (s0 : Int) (.slice fa fn fc) (.slice aa m ac) B Mb Q (.slice va nk vc) (.slice f1 f2 f3) (.slice g1 g2 g3) (subR f N nk).ms (subR f N nk).fin (subR f N nk).ars):=hG
   have HL : Hid (f2 = (subR f N nk).fin.length /\ g2 = (subR f N nk).ars.length):=⟨hf2,hg2⟩
   clear hG hf2 hg2
   go_wp2
   exact bodyPost_ret (v:=.tuple #[.agg #[.int .i64 (nk : Int),.int .i64 0,.slice f1 f2 f3,.slice g1 g2 g3],.bool true]) (by simp [results,Try.results29,go_sem, *]) rfl ⟨nk,HALL.out,Or.inr ⟨HNK.out,f1,f2,f3,g1,g2,g3,rfl,by
    have h1:=HG.out.fo
    have hq : (Value.slice f1 f2 f3).ownBlock ≠ some Q:=fun e => by have:=own_base h1 Q e; omega
    have hx : (Value.slice f1 f2 f3).ownBlock ≠ some (w.heap.size + 1):=fun e => by have:=own_base h1 _ e; have:=HG.out.hM; have:=HG.out.hB; have:=HG.out.hQ; omega
    have h2:=ownsRow_setCell_far (i:=3) (u:=.slice g1 g2 g3) (ownsRow_setCell_far (i:=2) (u:=.slice f1 f2 f3) (ownsRow_setCell_far (i:=1) (u:=.int .i64 0) (ownsRow_setCell_far (i:=0) (u:=.int .i64 (nk : Int)) (ownsRow_setCell_far (i:=0) (u:=.int .i64 (nk : Int)) h1 hq) hx) hx) hx) hx
    exact ownsRow_ints h2,by
    have h1:=HG.out.ao
    have hq : (Value.slice g1 g2 g3).ownBlock ≠ some Q:=fun e => by have:=own_base h1 Q e; omega
    have hx : (Value.slice g1 g2 g3).ownBlock ≠ some (w.heap.size + 1):=fun e => by have:=own_base h1 _ e; have:=HG.out.hM; have:=HG.out.hB; have:=HG.out.hQ; omega
    have h2:=ownsRow_setCell_far (i:=3) (u:=.slice g1 g2 g3) (ownsRow_setCell_far (i:=2) (u:=.slice f1 f2 f3) (ownsRow_setCell_far (i:=1) (u:=.int .i64 0) (ownsRow_setCell_far (i:=0) (u:=.int .i64 (nk : Int)) (ownsRow_setCell_far (i:=0) (u:=.int .i64 (nk : Int)) h1 hq) hx) hx) hx) hx
    exact ownsRow_arcs h2⟩,bel_set4 (HG.out.sub.bel.setCell (p:=⟨Q,0,none⟩) (by have:=HG.out.hM; have:=HG.out.hB; have:=HG.out.hQ; show w.heap.size <= Q; omega) _) (by omega) _ _ _ _⟩
end Go.Proofs.Yteehgcbjmdideab
/- A map of numbers; 'beginnings': how many beginnings words have,each once. -/
namespace Go.Proofs.Yteehgcbjmdideab
open Go.RowKit Go.ChangeMaps
attribute [local go_sem ↓] Go.wp_at_zero Go.wp_at_succ
theorem keyN : Maps.Keyed Try.prog 3:=Maps.int_keyed Try.underlying3
theorem key_num {x : Nat} (h : x <= 1000000) : keyOf Try.prog 3 (.int .i64 (x : Int)) = some (.int .i64 (x : Int)):=by
 refine Maps.keyOf_int_mk Try.underlying3 ?_
 have:=wf_wrap .i64 (x : Int)
 rw [wrap_in _ (by omega) (by omega)] at this
 exact this
def NumM (w : World) (b : Nat) (ps : List (Nat × Nat)) : Prop:=∃ es clock,w.heap[b]? = some (.map es clock) /\ es.toList.map (fun e => (e.key,e.val)) = ps.map fun p => (Value.int .i64 (p.1 : Int),Value.int .i64 (p.2 : Int))
theorem NumM.lt {w : World} {b : Nat} {ps : List (Nat × Nat)} (h : NumM w b ps) : b < w.heap.size:=by
 obtain ⟨es,clock,hb,_⟩:=h
 exact heap_lt hb
theorem NumM.block {w w' : World} {b : Nat} {ps : List (Nat × Nat)} (h : NumM w b ps) (hb : w'.heap[b]? = w.heap[b]?) : NumM w' b ps:=by
 obtain ⟨es,clock,h1,h2⟩:=h
 exact ⟨es,clock,hb.trans h1,h2⟩
theorem numM_at {es : List MapEntry} {ps : List (Nat × Nat)} (h : es.map (fun e => (e.key,e.val)) = ps.map fun p => (Value.int .i64 (p.1 : Int),Value.int .i64 (p.2 : Int))) {j : Nat} {e : MapEntry} (he : es[j]? = some e) : ∃ p,ps[j]? = some p /\ e.key = .int .i64 (p.1 : Int) /\ e.val = .int .i64 (p.2 : Int):=by
 have h1:=congrArg (fun l => l[j]?) h
 simp only [List.getElem?_map,he,Option.map_some] at h1
 rcases hm : ps[j]? with _ | p
 ·rw [hm] at h1; cases h1
 ·rw [hm] at h1
  simp only [Option.map_some] at h1
  injection h1 with h1
  injection h1 with h2 h3
  exact ⟨p,rfl,h2,h3⟩
theorem num_find {w : World} {es : List MapEntry} {ps : List (Nat × Nat)} (h : es.map (fun e => (e.key,e.val)) = ps.map fun p => (Value.int .i64 (p.1 : Int),Value.int .i64 (p.2 : Int))) (hok : ∀ p ∈ ps,p.1 <= 1000000) {x : Nat} (hx : x <= 1000000) :
  ((Instr.findKey 3 (.int .i64 (x : Int)) es).run Try.prog w = .ok none w /\ ∀ p ∈ ps,p.1 ≠ x) \/ ∃ (j c : Nat),(Instr.findKey 3 (.int .i64 (x : Int)) es).run Try.prog w = .ok (some (j,.int .i64 (c : Int))) w /\ (x,c) ∈ ps:=by
 have hkeys : ∀ e ∈ es,∃ l,keyOf Try.prog 3 e.key = some l:=fun e he => by
  obtain ⟨j,hj⟩:=List.mem_iff_getElem?.1 he
  obtain ⟨p,h1,h2,_⟩:=numM_at h hj
  rw [h2]
  exact ⟨_,key_num (hok p (List.mem_of_getElem? h1))⟩
 rcases keyN.find w (key_num hx) es hkeys with ⟨h1,h2⟩ | ⟨j,e,h1,h2,h3⟩
 ·left
  refine ⟨h1,fun p hp hpx => ?_⟩
  obtain ⟨j,hj⟩:=List.mem_iff_getElem?.1 hp
  have hlen : es.length = ps.length:=by
   have:=congrArg List.length h
   simpa using this
  have hlt : j < es.length:=by rw [hlen]; exact (List.getElem?_eq_some_iff.1 hj).1
  obtain ⟨p',h4,h5,_⟩:=numM_at h (List.getElem?_eq_getElem hlt)
  rw [hj] at h4
  injection h4 with h4
  subst h4
  exact h2 _ (List.getElem_mem hlt) (by rw [h5,hpx])
 ·right
  obtain ⟨p,h4,h5,h6⟩:=numM_at h h2
  rw [h3] at h5
  injection h5 with _ h5
  have hpx : p.1 = x:=by omega
  refine ⟨j,p.2,by rw [h1,h6],?_⟩
  have:=List.mem_of_getElem? h4
  rw [<- hpx]
  exact this
theorem num_check {x : Nat} (hx : x <= 1000000) (em : Bool) (w : World) : (Instr.checkKey em 10000 3 (.int .i64 (x : Int))).run Try.prog w = .ok () w:=keyN.check w em (key_num hx)
theorem und_mapN : Try.prog.underlying 69 = some (.map 3 3):=by kernel_rfl
theorem num_look {w : World} {b : Nat} {ps : List (Nat × Nat)} (h : NumM w b ps) (hok : ∀ p ∈ ps,p.1 <= 1000000) {x : Nat} (hx : x <= 1000000) :
  ((∀ p ∈ ps,p.1 ≠ x) /\ (Instr.lookup 69 (.map (some b)) (.int .i64 (x : Int)) true).run Try.prog w = .ok (.tuple #[.int .i64 0,.bool false]) w) \/
  ∃ c : Nat,(x,c) ∈ ps /\ (Instr.lookup 69 (.map (some b)) (.int .i64 (x : Int)) true).run Try.prog w = .ok (.tuple #[.int .i64 (c : Int),.bool true]) w /\ (Instr.lookup 69 (.map (some b)) (.int .i64 (x : Int)) false).run Try.prog w = .ok (.int .i64 (c : Int)) w:=by
 obtain ⟨es,clock,hb,hes⟩:=h
 rcases num_find (w:=w) hes hok hx with ⟨r1,r2⟩ | ⟨j,c,r1,r2⟩
 ·left
  refine ⟨r2,?_⟩
  simp [Instr.lookup,run_underlying und_mapN,MapKept.run_getObj_map hb,num_check hx,r1,Result.andThen]
 ·right
  refine ⟨c,r2,?_,?_⟩
  ·simp [Instr.lookup,run_underlying und_mapN,MapKept.run_getObj_map hb,num_check hx,r1,Result.andThen]
  ·simp [Instr.lookup,run_underlying und_mapN,MapKept.run_getObj_map hb,num_check hx,r1,Result.andThen]
theorem num_put {w : World} {b : Nat} {ps : List (Nat × Nat)} (h : NumM w b ps) (hok : ∀ p ∈ ps,p.1 <= 1000000) {x c : Nat} (hx : x <= 1000000) (hn : ∀ p ∈ ps,p.1 ≠ x) :
  ∃ w',(Instr.mapUpdate 69 (.map (some b)) (.int .i64 (x : Int)) (.int .i64 (c : Int))).run Try.prog w = .ok () w' /\ NumM w' b (ps ++ [(x,c)]) /\ w.grownBy w' (some b):=by
 obtain ⟨es,clock,hb,hes⟩:=h
 rcases num_find (w:=w) hes hok hx with ⟨r1,r2⟩ | ⟨j,c',r1,r2⟩
 ·refine ⟨setBlock w b (.map (es.push ⟨.int .i64 (x : Int),.int .i64 (c : Int),clock⟩) (clock + 1)),?_,?_,?_⟩
  ·simp [Instr.mapUpdate,run_underlying und_mapN,MapKept.run_getObj_map hb,num_check hx,r1,MapKept.run_setObj_map _ hb,Result.andThen,setBlock]
  ·refine ⟨_,_,heap_setBlock_same hb _,?_⟩
   simp [hes]
  ·exact ⟨rfl,rfl,rfl,by simp [setBlock],fun k _ hne => heap_setBlock_other hb _ (fun e => hne (by rw [e]))⟩
 ·exact absurd rfl (hn (x,c') r2)
def sumC (cnt : Nat -> Nat) (s : Nat) : List (Nat × Nat) -> Nat
 | [] => 0
 | e :: E => (if e.1 = s then cnt e.2 else 0) + sumC cnt s E
theorem sumC_snoc (cnt : Nat -> Nat) (s : Nat) (E : List (Nat × Nat)) (e : Nat × Nat) : sumC cnt s (E ++ [e]) = sumC cnt s E + if e.1 = s then cnt e.2 else 0:=by
 induction E with
 | nil => simp [sumC]
 | cons d E ih => rw [List.cons_append]; unfold sumC; rw [ih]; omega
theorem sumC_le {cnt : Nat -> Nat} (h : ∀ s,cnt s <= 201) (s : Nat) (E : List (Nat × Nat)) : sumC cnt s E <= 201 * E.length:=by
 induction E with
 | nil => simp [sumC]
 | cons e E ih =>
  unfold sumC
  have:=h e.2
  rw [List.length_cons]
  split <;> omega
def CntOk (E : List (Nat × Nat)) (cnt : Nat -> Nat) : Prop:=∀ s,cnt s = min (1 + sumC cnt s E) 201
structure BW (w0 wr : World) (st sta : Int) (fin arcs : Value) (K F C Kb : Nat) (cnt : Nat -> Nat) (ps : List (Nat × Nat)) : Prop where
 bel : Below w0.heap.size w0 wr
 cf : CellsF wr F st sta fin arcs
 ck : wr.cell? ⟨K,0,none⟩ = some (.map (some Kb))
 cc : wr.cell? ⟨C,0,none⟩ = some (.func (.func 64) #[] #[.pointer (some ⟨K,0,none⟩),.pointer (some ⟨F,0,none⟩),.pointer (some ⟨C,0,none⟩)])
 map : NumM wr Kb ps
 ok : ∀ p ∈ ps,p.1 <= 1000000 /\ p.2 = cnt p.1
 b0 : w0.heap.size <= Kb
 nf : F ≠ Kb
 nk : K ≠ Kb
 nc : C ≠ Kb
theorem BW.below {w0 wr wx : World} {st sta : Int} {fin arcs : Value} {K F C Kb : Nat} {cnt : Nat -> Nat} {ps : List (Nat × Nat)} (h : BW w0 wr st sta fin arcs K F C Kb cnt ps) (hb : Below wr.heap.size wr wx) : BW w0 wx st sta fin arcs K F C Kb cnt ps :=
 ⟨bel_on h.bel hb,h.cf.below hb,bel_c hb h.ck,bel_c hb h.cc,h.map.block (hb.block Kb h.map.lt),h.ok,h.b0,h.nf,h.nk,h.nc⟩
theorem BW.put {w0 wr wx : World} {st sta : Int} {fin arcs : Value} {K F C Kb : Nat} {cnt : Nat -> Nat} {ps : List (Nat × Nat)} {s : Nat} (h : BW w0 wr st sta fin arcs K F C Kb cnt ps) (hs : s <= 1000000) (hg : wr.grownBy wx (some Kb)) (hm : NumM wx Kb (ps ++ [(s,cnt s)])) : BW w0 wx st sta fin arcs K F C Kb cnt (ps ++ [(s,cnt s)]):=by
 have ne : ∀ {b : Nat},b ≠ Kb -> some b ≠ some Kb:=fun h e => h (by injection e)
 have bF:=hg.block F (cell_lt h.cf.1) (ne h.nf)
 refine ⟨h.bel.grown hg (by have:=h.bel.size; omega) (fun k hk => by injection hk with hk; rw [<- hk]; exact h.b0),⟨cells_same bF h.cf.1,cells_same bF h.cf.2.1,cells_same bF h.cf.2.2.1,cells_same bF h.cf.2.2.2⟩,cells_same (hg.block K (cell_lt h.ck) (ne h.nk)) h.ck,cells_same (hg.block C (cell_lt h.cc) (ne h.nc)) h.cc,hm,fun p hp => ?_,h.b0,h.nf,h.nk,h.nc⟩
 rcases List.mem_append.1 hp with hp | hp
 ·exact h.ok p hp
 ·rw [List.mem_singleton.1 hp]
  exact ⟨hs,rfl⟩
theorem gBeg1 : ∀ args w,(callFunc 64 args).run Try.prog w = .ok (.enter 64 args) w:=enters_of Try.func64 (by kernel_rfl) rfl
end Go.Proofs.Yteehgcbjmdideab
