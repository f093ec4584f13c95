/- 'TrimOf' of the document,whatever right transducer it is handed. -/
import Derived.Test.YteehgcbjmdideabVM26
import Derived.Test.YteehgcbjmdideabVM25
import Derived.Test.YteehgcbjmdideabVM21
import Derived.Test.YteehgcbjmdideabVM10
import Derived.Great.BuildSlice
import Derived.Test.YteehgcbjmdideabVM12
namespace Go.Proofs.Yteehgcbjmdideab.Sc
open Go.RowKit Go.Maps Go.ChangeShapes
theorem trimOf_any (f : FstD) (fin arcs : Value) (w : World) (hf : ISlice w fin f.final) (ha : ASlice w arcs f.arcs) (hc : checkD f = 0) :
  Calls Try.prog 36 #[.agg #[.int .i64 f.states,.int .i64 f.start,fin,arcs]] w fun e w' => TrimIs f w.heap.size e w' /\ Below w.heap.size w w':=by
 have ok:=check_ok f hc
 obtain ⟨st,sta,xs,ars⟩:=f
 have hb:=inB_le ok.states
 have hs:=inB_le ok.start
 have hlen:=ok.len
 simp only at hb hs hlen hf ha
 obtain ⟨N,rfl⟩ : ∃ N : Nat,st = N:=⟨st.toNat,by omega⟩
 obtain ⟨s0,rfl⟩ : ∃ s0 : Nat,sta = s0:=⟨sta.toNat,by omega⟩
 obtain ⟨fa,fn,fc,rfl,hfl,hfm⟩:=hf.lenOf
 obtain ⟨aa,n,ac,rfl,hal,ham⟩:=ha.lenOf
 obtain ⟨fb,off,rfl,hx⟩:=hf.some (by omega)
 have hfn : fn = N:=by omega
 subst hfn
 have hmany : n <= 3000:=by have:=ok.many; simp only at this; omega
 have hok : ∀ a ∈ ars,(0 <= a.src /\ a.src < (fn : Int)) /\ (0 <= a.dst /\ a.dst < (fn : Int)):=fun a h => by
  have o:=ok.arcs a h
  have q1:=inB_le o.src
  have q2:=inB_le o.dst
  simp only at q1 q2
  omega
 exact trimOf_some fn s0 xs ars fb off fc aa n ac w hx ha hal hmany (by omega) (by omega) (by omega) hok (fun x hx => (finB_out (ok.fin x hx)).2) hc
end Go.Proofs.Yteehgcbjmdideab.Sc
/- 'TrimOf' at what Determine is handed. -/
namespace Go.Proofs.Yteehgcbjmdideab
open Go.RowKit
theorem fresh_ints {w : World} {B : Nat} {v : Value} {xs : List Int} (h : ISlice w v xs) (hv : ∀ g,v.ownBlock = some g -> B <= g) {W : World} (hW : ∀ b,B <= b -> b < w.heap.size -> W.heap[b]? = w.heap[b]?) : ISlice W v xs:=by
 rcases h with h | ⟨g,off,n,cap,rfl,hx,hn⟩
 ·exact Or.inl h
 ·have hg:=hv g rfl
  exact Or.inr ⟨g,off,n,cap,rfl,⟨hx.len,fun i hi => cells_same (hW g hg (cell_lt (hx.cell i hi))) (hx.cell i hi)⟩,hn⟩
theorem fresh_arcs {w : World} {B : Nat} {v : Value} {xs : List ArcD} (h : ASlice w v xs) (hv : ∀ g,v.ownBlock = some g -> B <= g) {W : World} (hW : ∀ b,B <= b -> b < w.heap.size -> W.heap[b]? = w.heap[b]?) : ASlice W v xs:=by
 rcases h with h | ⟨g,off,n,cap,rfl,hx,hn⟩
 ·exact Or.inl h
 ·have hg:=hv g rfl
  exact Or.inr ⟨g,off,n,cap,rfl,⟨hx.len,fun i hi => cells_same (hW g hg (cell_lt (hx.c0 i hi))) (hx.c0 i hi),fun i hi => cells_same (hW g hg (cell_lt (hx.c1 i hi))) (hx.c1 i hi),fun i hi => cells_same (hW g hg (cell_lt (hx.c2 i hi))) (hx.c2 i hi),fun i hi => cells_same (hW g hg (cell_lt (hx.c3 i hi))) (hx.c3 i hi),fun i hi => cells_same (hW g hg (cell_lt (hx.c4 i hi))) (hx.c4 i hi)⟩,hn⟩
theorem DIn.trimOf {f t : FstD} {N s0 : Nat} (h : DIn f t N s0) {fin arcs : Value} {W : World} (hf : ISlice W fin f.final) (ha : ASlice W arcs f.arcs) : Calls Try.prog 36 #[.agg #[.int .i64 f.states,.int .i64 f.start,fin,arcs]] W fun e w' => ∃ fa fn fc aa an ac,e = .returned (.agg #[.int .i64 (N : Int),.int .i64 (s0 : Int),.slice fa fn fc,.slice aa an ac]) /\ Sc.FreshT W.heap.size w' (.slice fa fn fc) (.slice aa an ac) t /\ Below W.heap.size W w':=by
 refine (Sc.trimOf_any f fin arcs W hf ha h.hc).mono ?_
 rintro e w' ⟨⟨fv,av,rfl,hI,hA,o1,o2⟩,hb⟩
 have ht : Sc.trimD f = t:=(Sc.trimD_is f h.hc).unique h.ht
 rw [ht] at hI hA ⊢
 obtain ⟨fa,fn,fc,rfl,_,_⟩:=hI.lenOf
 obtain ⟨aa,an,ac,rfl,_,_⟩:=hA.lenOf
 rw [h.hT.sin.st,h.hT.sin.sta]
 exact ⟨fa,fn,fc,aa,an,ac,rfl,fun W' hW' => ⟨fresh_ints hI o1 hW',fresh_arcs hA o2 hW'⟩,hb⟩
end Go.Proofs.Yteehgcbjmdideab
/- A region that draws its order: a chain of operations,and three that may come up between: a law for all orders at once. -/
namespace Go.Proofs.Yteehgcbjmdideab
open Go
theorem put_put (a : Act) (d : Nat) (u v : Value) : (a.put (some d) u).put (some d) v = a.put (some d) v:=by
 simp [Act.put]
theorem put_comm (a : Act) {d e : Nat} (h : d ≠ e) (u v : Value) : (a.put (some d) u).put (some e) v = (a.put (some e) v).put (some d) u:=by
 simp [Act.put,Array.setIfInBounds_comm _ _ h]
def frameF (a : Act) : List Nat -> (Nat -> Value) -> Act
 | [],_ => a
 | d :: ds,x => frameF (a.put (some d) (x d)) ds x
def updX (x : Nat -> Value) (d : Nat) (v : Value) : Nat -> Value:=fun n => if n = d then v else x n
theorem frame_out {x : Nat -> Value} {d : Nat} {v : Value} : ∀ (ds : List Nat) (a : Act),d ∉ ds -> (frameF a ds x).put (some d) v = frameF (a.put (some d) v) ds x
 | [],_,_ => rfl
 | e :: ds,a,h => by
  unfold frameF
  have hne : e ≠ d:=fun e' => h (by rw [<- e']; exact List.mem_cons_self)
  rw [frame_out ds _ (fun hm => h (List.mem_cons_of_mem _ hm)),put_comm _ hne]
theorem frame_cong {x y : Nat -> Value} : ∀ (ds : List Nat) (a : Act),(∀ d ∈ ds,x d = y d) -> frameF a ds x = frameF a ds y
 | [],_,_ => rfl
 | e :: ds,a,h => by
  unfold frameF
  rw [h e List.mem_cons_self,frame_cong ds _ (fun d hd => h d (List.mem_cons_of_mem _ hd))]
theorem frame_put {x : Nat -> Value} {d : Nat} {v : Value} : ∀ (ds : List Nat) (a : Act),ds.Nodup -> d ∈ ds -> (frameF a ds x).put (some d) v = frameF a ds (updX x d v)
 | [],_,_,h => by cases h
 | e :: ds,a,hn,h => by
  rw [List.nodup_cons] at hn
  unfold frameF
  by_cases he : d = e
  ·subst he
   rw [frame_out ds _ hn.1,put_put]
   have : updX x d v d = v:=by simp [updX]
   rw [this]
   refine frame_cong ds _ fun n hm => ?_
   have : n ≠ d:=fun e' => hn.1 (by rw [<- e']; exact hm)
   simp [updX,this]
  ·have : updX x d v e = x e:=by simp [updX,Ne.symm he]
   rw [this]
   refine frame_put ds _ hn.2 ?_
   rcases List.mem_cons.1 h with h | h
   ·exact absurd h he
   ·exact h
theorem frame_no {x : Nat -> Value} {n : Nat} : ∀ (ds : List Nat) (a : Act),n ∉ ds -> (frameF a ds x).eval (.tmp n) = a.eval (.tmp n)
 | [],_,_ => rfl
 | e :: ds,a,h => by
  unfold frameF
  rw [frame_no ds _ (fun hm => h (List.mem_cons_of_mem _ hm))]
  have : e ≠ n:=fun e' => h (by rw [<- e']; exact List.mem_cons_self)
  simp [Act.eval,Act.put,Array.getD_eq_getD_getElem?,Array.getElem?_setIfInBounds_ne this]
theorem frame_at {x : Nat -> Value} {n : Nat} : ∀ (ds : List Nat) (a : Act),n ∈ ds -> n < a.tmps.size -> (frameF a ds x).eval (.tmp n) = x n
 | [],_,h,_ => by cases h
 | e :: ds,a,h,hs => by
  unfold frameF
  by_cases hm : n ∈ ds
  ·exact frame_at ds _ hm (by simpa [Act.put] using hs)
  ·rw [frame_no ds _ hm]
   have : e = n:=by
    rcases List.mem_cons.1 h with h | h
    ·exact h.symm
    ·exact absurd h hm
   subst this
   simp [Act.eval,Act.put,Array.getD_eq_getD_getElem?,hs]
theorem wp_lit1 {P : Program} {o : Oper} {a : Act} {w : World} {K : Act -> World -> Prop} {Q : Exit -> Act -> World -> Prop} (t e : TypeId) (x : Operand) (ho : o.op = .buildSlice t 1 #[(0,x)]) (ie : TypeInfo) (z : Value) (hu : P.underlying t = some (.slice e)) (hie : P.info? e = some ie) (hz : ie.zero = some z) (hsz : ie.size = 1) (hzc : z.cells.size = 1) (u : Value) (hx : a.eval x = u) (hu1 : u.cells = #[u])
  (h : K (a.put o.dst (.slice (some ⟨w.heap.size,0,none⟩) 1 1)) (w.alloc (.cells #[u] e))) : o.wp P a w K Q:=by
 refine wp_buildSlice t e 1 _ ho #[u] ie z hu hie hz (by rw [hsz]; decide) (by rw [hsz]; decide) ?_ h
 rw [hsz]
 simp [Instr.fill,hx,hu1,hzc]
 rw [show Array.range 1 = #[0] from rfl]
 simp
section
variable {P : Program} {ops : Array Oper} {Q : Exit -> Act -> World -> Prop} {md : Region.Mode} {S : World -> Prop} {fatal : List Nat}
def flowL (l0 : Array Bool) (c : List Nat) (p l q k : Nat) (bp bl bq : Bool) : Array Bool :=
 let a:=(c.take k).foldl (fun a i => a.setIfInBounds i true) l0
 let a:=if bp then a.setIfInBounds p true else a
 let a:=if bl then a.setIfInBounds l true else a
 if bq then a.setIfInBounds q true else a
def flowV (k : Nat) (bp bl bq : Bool) : Bool:=(decide (k < 4) || bp) && (decide (k < 5) || bl) && (!bq || decide (3 <= k)) && decide (k <= 5)
def flow1 (md : Region.Mode) (ops : Array Oper) (l0 : Array Bool) (c : List Nat) (p l q k : Nat) (bp bl bq : Bool) : Bool :=
 let L:=flowL l0 c p l q k bp bl bq
 let r:=Region.ready md ops L
 (k == 5 && bp && bl && bq) || (!r.isEmpty && r.all fun i =>
  (decide (k < 5) && c[k]? == some i && flowV (k + 1) bp bl bq && L.setIfInBounds i true == flowL l0 c p l q (k + 1) bp bl bq) ||
  (i == p && !bp && L.setIfInBounds i true == flowL l0 c p l q k true bl bq) ||
  (i == l && !bl && L.setIfInBounds i true == flowL l0 c p l q k bp true bq) ||
  (i == q && !bq && decide (3 <= k) && L.setIfInBounds i true == flowL l0 c p l q k bp bl true))
def flowB (md : Region.Mode) (ops : Array Oper) (l0 : Array Bool) (c : List Nat) (p l q k0 : Nat) : Bool :=
 (List.range 6).all fun k => decide (k < k0) || [true,false].all fun bp => [true,false].all fun bl => [true,false].all fun bq => !flowV k bp bl bq || flow1 md ops l0 c p l q k bp bl bq
def leftN (k : Nat) (bp bl bq : Bool) : Nat:=(5 - k) + (if bp then 0 else 1) + (if bl then 0 else 1) + (if bq then 0 else 1)
theorem mem_tf (b : Bool) : b ∈ [true,false]:=by cases b <;> simp
theorem wpAnyF_flow (I : Nat -> Bool -> Bool -> Bool -> Act -> World -> Prop) {l0 : Array Bool} {c : List Nat} {p l q k0 f0 : Nat}
  (hchk : flowB md ops l0 c p l q k0 = true)
  (hS : ∀ k bp bl bq a w,I k bp bl bq a w -> S w)
  (hc : ∀ k i bp bl bq a w,k0 <= k -> k < 5 -> c[k]? = some i -> flowV (k + 1) bp bl bq = true -> I k bp bl bq a w -> wpOp P ops Q i (fun a' w' => I (k + 1) bp bl bq a' w') a w)
  (hp : ∀ k bl bq a w,k0 <= k -> k <= 5 -> I k false bl bq a w -> wpOp P ops Q p (fun a' w' => I k true bl bq a' w') a w)
  (hl : ∀ k bp bq a w,k0 <= k -> k <= 5 -> I k bp false bq a w -> wpOp P ops Q l (fun a' w' => I k bp true bq a' w') a w)
  (hq : ∀ k bp bl a w,3 <= k -> k <= 5 -> I k bp bl false a w -> wpOp P ops Q q (fun a' w' => I k bp bl true a' w') a w)
  (hend : ∀ a w,I 5 true true true a w -> wpAnyF P md ops Q S fatal f0 (flowL l0 c p l q 5 true true true) a w) :
  ∀ (n k : Nat) (bp bl bq : Bool) (a : Act) (w : World),leftN k bp bl bq = n -> k0 <= k -> flowV k bp bl bq = true -> I k bp bl bq a w -> wpAnyF P md ops Q S fatal (n + f0) (flowL l0 c p l q k bp bl bq) a w:=by
 intro n
 induction n with
 | zero =>
  intro k bp bl bq a w hn hk hv hI
  unfold leftN at hn
  unfold flowV at hv
  cases bp <;> cases bl <;> cases bq <;> simp at hn hv
  obtain rfl : k = 5:=by omega
  rw [Nat.zero_add]
  exact hend a w hI
 | succ n ih =>
  intro k bp bl bq a w hn hk hv hI
  have hk5 : k <= 5:=by
   unfold flowV at hv
   simp at hv
   omega
  have h1 : flow1 md ops l0 c p l q k bp bl bq = true:=by
   unfold flowB at hchk
   have h2:=List.all_eq_true.1 hchk k (List.mem_range.2 (by omega))
   rw [Bool.or_eq_true] at h2
   rcases h2 with h2 | h2
   ·have:=of_decide_eq_true h2; omega
   ·have h3:=List.all_eq_true.1 (List.all_eq_true.1 (List.all_eq_true.1 h2 bp (mem_tf bp)) bl (mem_tf bl)) bq (mem_tf bq)
    rw [hv] at h3
    simpa using h3
  unfold flow1 at h1
  simp only [Bool.or_eq_true] at h1
  rcases h1 with h1 | h1
  ·exfalso
   simp at h1
   obtain ⟨⟨⟨rfl,rfl⟩,rfl⟩,rfl⟩:=h1
   simp [leftN] at hn
  ·rw [Bool.and_eq_true] at h1
   obtain ⟨hne,hall⟩:=h1
   rw [show n + 1 + f0 = n + f0 + 1 by omega]
   refine ⟨fun h0 => ?_,fun i hi => ?_⟩
   ·rw [h0] at hne
    cases hne
   ·have h2:=List.all_eq_true.1 hall i hi
    simp only [Bool.or_eq_true,Bool.and_eq_true,decide_eq_true_eq,beq_iff_eq,Bool.not_eq_true'] at h2
    rcases h2 with ((⟨⟨⟨r1,r2⟩,r3⟩,r4⟩ | ⟨⟨r1,r2⟩,r4⟩) | ⟨⟨r1,r2⟩,r4⟩) | ⟨⟨⟨r1,r2⟩,r3⟩,r4⟩
    ·refine wpOp_mono (fun a' w' hI' => ⟨fun _ => hS _ _ _ _ a' w' hI',?_⟩) (hc k i bp bl bq a w hk r1 r2 r3 hI)
     rw [r4]
     exact ih (k + 1) bp bl bq a' w' (by unfold leftN at hn ⊢; omega) (by omega) r3 hI'
    ·subst r1 r2
     refine wpOp_mono (fun a' w' hI' => ⟨fun _ => hS _ _ _ _ a' w' hI',?_⟩) (hp k bl bq a w hk hk5 hI)
     rw [r4]
     exact ih k true bl bq a' w' (by unfold leftN at hn ⊢; simp at hn ⊢; omega) hk (by revert hv; unfold flowV; cases bl <;> cases bq <;> simp <;> omega) hI'
    ·subst r1 r2
     refine wpOp_mono (fun a' w' hI' => ⟨fun _ => hS _ _ _ _ a' w' hI',?_⟩) (hl k bp bq a w hk hk5 hI)
     rw [r4]
     exact ih k bp true bq a' w' (by unfold leftN at hn ⊢; simp at hn ⊢; omega) hk (by revert hv; unfold flowV; cases bp <;> cases bq <;> simp <;> omega) hI'
    ·subst r1 r2
     refine wpOp_mono (fun a' w' hI' => ⟨fun _ => hS _ _ _ _ a' w' hI',?_⟩) (hq k bp bl a w r3 hk5 hI)
     rw [r4]
     exact ih k bp bl true a' w' (by unfold leftN at hn ⊢; simp at hn ⊢; omega) hk (by revert hv; unfold flowV; cases bp <;> cases bl <;> simp <;> omega) hI'
theorem wpAnyF_at {fuel fuel' : Nat} {listed listed' : Array Bool} {a : Act} {w : World} (h : wpAnyF P md ops Q S fatal fuel' listed' a w) (h1 : listed = listed') (h2 : fuel = fuel') : wpAnyF P md ops Q S fatal fuel listed a w:=by
 rw [h1,h2]; exact h
end
end Go.Proofs.Yteehgcbjmdideab
/- Three rows that grow in one statement: what is known when so many of its operations have come up. -/
namespace Go.Proofs.Yteehgcbjmdideab
open Go.RowKit
open Go
structure FI (w0 W : World) (Q N : Nat) (sta : Int) (fin arcs cv pv lv : Value) (V : List Int) (vp vl : Int) (LC : List Value) (cs : List (List Int)) (LP LL : List Int) (r xC yC xP yP xL yL : Value) (k : Nat) (bp bl : Bool) : Prop where
 wm : WM w0 W Q N sta fin arcs cv pv lv (if k < 3 then cv else yC) (if k < 4 then pv else yP) (if k < 5 then lv else yL) (if k < 3 then LC else LC ++ [r]) (if k < 3 then cs else cs ++ [V]) (if k < 4 then LP else LP ++ [vp]) (if k < 5 then LL else LL ++ [vl])
 row : 1 <= k -> ∃ G cap,r = .slice (some ⟨G,0,none⟩) N cap /\ (k < 3 -> RowAt W Q N G V cv pv lv)
 lC : k = 2 -> ∃ b,xC = .slice (some ⟨b,0,none⟩) 1 1 /\ LitAt W b r cv pv lv
 lP : bp = true -> k < 4 -> ∃ b,xP = .slice (some ⟨b,0,none⟩) 1 1 /\ LitAt W b (.int .i64 vp) (if k < 3 then cv else yC) pv lv
 lL : bl = true -> k < 5 -> ∃ b,xL = .slice (some ⟨b,0,none⟩) 1 1 /\ LitAt W b (.int .i64 vl) (if k < 3 then cv else yC) (if k < 4 then pv else yP) lv
section
variable {w0 W Wx : World} {Q N : Nat} {sta : Int} {fin arcs cv pv lv : Value} {V : List Int} {vp vl : Int} {LC : List Value} {cs : List (List Int)} {LP LL : List Int} {r xC yC xP yP xL yL v' : Value} {k : Nat} {bp bl : Bool}
theorem FI.below (h : FI w0 W Q N sta fin arcs cv pv lv V vp vl LC cs LP LL r xC yC xP yP xL yL k bp bl) (hb : Below W.heap.size W Wx) : FI w0 Wx Q N sta fin arcs cv pv lv V vp vl LC cs LP LL r xC yC xP yP xL yL k bp bl :=
 ⟨h.wm.below hb,fun hk => by
  obtain ⟨G,cap,e,h1⟩:=h.row hk
  exact ⟨G,cap,e,fun hlt => (h1 hlt).below hb⟩,fun hk => by
  obtain ⟨b,e,h1⟩:=h.lC hk
  exact ⟨b,e,h1.below hb⟩,fun h1 h2 => by
  obtain ⟨b,e,h3⟩:=h.lP h1 h2
  exact ⟨b,e,h3.below hb⟩,fun h1 h2 => by
  obtain ⟨b,e,h3⟩:=h.lL h1 h2
  exact ⟨b,e,h3.below hb⟩⟩
theorem FI.begun (h : FI w0 W Q N sta fin arcs cv pv lv V vp vl LC cs LP LL r xC yC xP yP xL yL 0 bp bl) (hb : Below W.heap.size W Wx) {G cap : Nat} (hr : RowAt Wx Q N G V cv pv lv) :
  FI w0 Wx Q N sta fin arcs cv pv lv V vp vl LC cs LP LL (.slice (some ⟨G,0,none⟩) N cap) xC yC xP yP xL yL 1 bp bl:=by
 have h':=h.below hb
 exact ⟨h'.wm,fun _ => ⟨G,cap,rfl,fun _ => hr⟩,fun e => by omega,fun h1 _ => h'.lP h1 (by decide),fun h1 _ => h'.lL h1 (by decide)⟩
theorem FI.litC (h : FI w0 W Q N sta fin arcs cv pv lv V vp vl LC cs LP LL r xC yC xP yP xL yL 1 bp bl) (t : Nat) :
  FI w0 (W.alloc (.cells #[r] t)) Q N sta fin arcs cv pv lv V vp vl LC cs LP LL r (.slice (some ⟨W.heap.size,0,none⟩) 1 1) yC xP yP xL yL 2 bp bl:=by
 have h':=h.below (bel_up (bel_self W) (.cells #[r] t))
 obtain ⟨G,cap,e,h1⟩:=h'.row (by omega)
 exact ⟨h'.wm,fun _ => ⟨G,cap,e,fun _ => h1 (by decide)⟩,fun _ => ⟨_,rfl,lit_new h.wm r t⟩,fun h1 _ => h'.lP h1 (by decide),fun h1 _ => h'.lL h1 (by decide)⟩
theorem FI.litP (h : FI w0 W Q N sta fin arcs cv pv lv V vp vl LC cs LP LL r xC yC xP yP xL yL k false bl) (t : Nat) :
  FI w0 (W.alloc (.cells #[.int .i64 vp] t)) Q N sta fin arcs cv pv lv V vp vl LC cs LP LL r xC yC (.slice (some ⟨W.heap.size,0,none⟩) 1 1) yP xL yL k true bl:=by
 have h':=h.below (bel_up (bel_self W) (.cells #[.int .i64 vp] t))
 refine ⟨h'.wm,h'.row,h'.lC,fun _ hk => ⟨_,rfl,?_⟩,h'.lL⟩
 have:=lit_new h.wm (.int .i64 vp) t
 rw [if_pos hk,if_pos (by omega : k < 5)] at this
 exact this
theorem FI.litL (h : FI w0 W Q N sta fin arcs cv pv lv V vp vl LC cs LP LL r xC yC xP yP xL yL k bp false) (t : Nat) :
  FI w0 (W.alloc (.cells #[.int .i64 vl] t)) Q N sta fin arcs cv pv lv V vp vl LC cs LP LL r xC yC xP yP (.slice (some ⟨W.heap.size,0,none⟩) 1 1) yL k bp true:=by
 have h':=h.below (bel_up (bel_self W) (.cells #[.int .i64 vl] t))
 refine ⟨h'.wm,h'.row,h'.lC,h'.lP,fun _ hk => ⟨_,rfl,?_⟩⟩
 have:=lit_new h.wm (.int .i64 vl) t
 rw [if_pos hk] at this
 exact this
theorem FI.growC (h : FI w0 W Q N sta fin arcs cv pv lv V vp vl LC cs LP LL r xC yC xP yP xL yL 2 bp bl) (hg : W.grownBy Wx cv.ownBlock) (ho : Wx.ownsRow (Q + 1) 22 1 v' (LC.length + 1) (LC ++ [r])) (hv : v'.ownBlock = cv.ownBlock \/ v'.ownBlock = some W.heap.size) :
  FI w0 Wx Q N sta fin arcs cv pv lv V vp vl LC cs LP LL r xC v' xP yP xL yL 3 bp bl:=by
 obtain ⟨G,cap,rfl,hr⟩:=h.row (by omega)
 have hr:=hr (by omega)
 have hm : WM w0 W Q N sta fin arcs cv pv lv cv pv lv LC cs LP LL:=h.wm
 refine ⟨hm.appC hr.num hr.q hr.nC hr.nP hr.nL hg ho hv,fun _ => ⟨G,cap,rfl,fun h => by omega⟩,fun e => by omega,fun h1 h2 => ?_,fun h1 h2 => ?_⟩
 ·obtain ⟨b,e,h3⟩:=h.lP h1 (by omega)
  exact ⟨b,e,h3.gC hg hv⟩
 ·obtain ⟨b,e,h3⟩:=h.lL h1 (by omega)
  exact ⟨b,e,h3.gC hg hv⟩
theorem FI.growP (h : FI w0 W Q N sta fin arcs cv pv lv V vp vl LC cs LP LL r xC yC xP yP xL yL 3 true bl) (hg : W.grownBy Wx pv.ownBlock) (ho : Wx.ownsRow (Q + 1) 3 1 v' (LP.length + 1) (intsW LP ++ [.int .i64 vp])) (hv : v'.ownBlock = pv.ownBlock \/ v'.ownBlock = some W.heap.size) :
  FI w0 Wx Q N sta fin arcs cv pv lv V vp vl LC cs LP LL r xC yC xP v' xL yL 4 true bl:=by
 obtain ⟨G,cap,hr,_⟩:=h.row (by omega)
 have hm : WM w0 W Q N sta fin arcs cv pv lv yC pv lv (LC ++ [r]) (cs ++ [V]) LP LL:=h.wm
 refine ⟨hm.appP hg ho hv,fun _ => ⟨G,cap,hr,fun h => by omega⟩,fun e => by omega,fun h1 h2 => by omega,fun h1 h2 => ?_⟩
 obtain ⟨b,e,h3⟩:=h.lL h1 (by omega)
 exact ⟨b,e,h3.gP hg hv⟩
theorem FI.growL (h : FI w0 W Q N sta fin arcs cv pv lv V vp vl LC cs LP LL r xC yC xP yP xL yL 4 true true) (hg : W.grownBy Wx lv.ownBlock) (ho : Wx.ownsRow (Q + 1) 3 1 v' (LL.length + 1) (intsW LL ++ [.int .i64 vl])) (hv : v'.ownBlock = lv.ownBlock \/ v'.ownBlock = some W.heap.size) :
  FI w0 Wx Q N sta fin arcs cv pv lv V vp vl LC cs LP LL r xC yC xP yP xL v' 5 true true:=by
 obtain ⟨G,cap,hr,_⟩:=h.row (by omega)
 have hm : WM w0 W Q N sta fin arcs cv pv lv yC yP lv (LC ++ [r]) (cs ++ [V]) (LP ++ [vp]) LL:=h.wm
 exact ⟨hm.appL hg ho hv,fun _ => ⟨G,cap,hr,fun h => by omega⟩,fun e => by omega,fun h1 h2 => by omega,fun h1 h2 => by omega⟩
theorem FI.last (h : FI w0 W Q N sta fin arcs cv pv lv V vp vl LC cs LP LL r xC yC xP yP xL yL 5 true true) : WM w0 W Q N sta fin arcs cv pv lv yC yP yL (LC ++ [r]) (cs ++ [V]) (LP ++ [vp]) (LL ++ [vl]):=h.wm
end
end Go.Proofs.Yteehgcbjmdideab
/- Three rows that grow in one statement: the law. -/
namespace Go.Proofs.Yteehgcbjmdideab
open Go.RowKit
open Go
theorem frame_upd {a0 : Act} {ds : List Nat} {x : Nat -> Value} {d n : Nat} {v : Value} (hn : ds.Nodup) (hd : d ∈ ds) (h : d ≠ n) : (frameF a0 ds (updX x d v)).eval (.tmp n) = (frameF a0 ds x).eval (.tmp n):=by
 rw [<- frame_put ds a0 hn hd]
 simp [Act.eval,Act.put,Array.getD_eq_getD_getElem?,Array.getElem?_setIfInBounds_ne h]
theorem updX_at (x : Nat -> Value) (d : Nat) (v : Value) : updX x d v d = v:=by simp [updX]
theorem updX_no (x : Nat -> Value) {d n : Nat} (v : Value) (h : n ≠ d) : updX x d v n = x n:=by simp [updX,h]
theorem wanted_none {o : Oper} {y : Nat -> Option Bool} (hgd : o.guard = none) : Region.wanted o y = true:=by simp [Region.wanted,hgd]
theorem wpOp_of {P : Program} {ops : Array Oper} {Q : Exit -> Act -> World -> Prop} {i : Nat} {o : Oper} {K : Act -> World -> Prop} {a : Act} {w : World} (ho : ops[i]? = some o) (hg : o.guard = none) (h : ∀ K' : Act -> World -> Prop,(∀ a w,K a w -> K' a w) -> o.wp P a w K' Q) : wpOp P ops Q i K a w :=
 wpOp_step ho fun K' hK => by rw [if_pos (wanted_none hg)]; exact h K' hK
structure Ops3 (ops : Array Oper) (c : List Nat) (p l q : Nat) (ds : List Nat) (sr uC uP uL sC tC sP tP sL tL sq : Nat) (xp xl : Operand) : Prop where
 opB : ∃ i o,c[1]? = some i /\ ops[i]? = some o /\ o.op = .buildSlice 31 1 #[(0,.tmp sr)] /\ o.dst = some sC /\ o.guard = none
 opC : ∃ i o,c[2]? = some i /\ ops[i]? = some o /\ o.op = .call { callee:=.builtin .append,args:=#[.tmp uC,.tmp sC],argTypes:=#[31,31] } /\ o.dst = some tC /\ o.guard = none
 opD : ∃ i o,c[3]? = some i /\ ops[i]? = some o /\ o.op = .call { callee:=.builtin .append,args:=#[.tmp uP,.tmp sP],argTypes:=#[22,22] } /\ o.dst = some tP /\ o.guard = none
 opE : ∃ i o,c[4]? = some i /\ ops[i]? = some o /\ o.op = .call { callee:=.builtin .append,args:=#[.tmp uL,.tmp sL],argTypes:=#[22,22] } /\ o.dst = some tL /\ o.guard = none
 opP : ∃ o,ops[p]? = some o /\ o.op = .buildSlice 22 1 #[(0,xp)] /\ o.dst = some sP /\ o.guard = none
 opL : ∃ o,ops[l]? = some o /\ o.op = .buildSlice 22 1 #[(0,xl)] /\ o.dst = some sL /\ o.guard = none
 opQ : ∃ o,ops[q]? = some o /\ o.dst = some sq /\ o.guard = none /\ o.op = .fieldAddr 33 (.tmp 4) 1
 nd : ([sC,tC,sP,tP,sL,tL,sq,sr,uC,uP,uL,4] : List Nat).Nodup
 dn : ds.Nodup
 dm : sC ∈ ds /\ tC ∈ ds /\ sP ∈ ds /\ tP ∈ ds /\ sL ∈ ds /\ tL ∈ ds /\ sq ∈ ds
 dx : uC ∉ ds /\ uP ∉ ds /\ uL ∉ ds /\ 4 ∉ ds
section
variable {ops : Array Oper} {Qx : Exit -> Act -> World -> Prop} {S : World -> Prop} {fatal : List Nat} {a0 : Act} {ds : List Nat} {c : List Nat} {p l q sr uC uP uL sC tC sP tP sL tL sq : Nat} {xp xl : Operand}
 {w0 : World} {Q N : Nat} {sta : Int} {fin arcs cv pv lv : Value} {V : List Int} {vp vl : Int} {LC : List Value} {cs : List (List Int)} {LP LL : List Int}
def FS (w0 : World) (Q N : Nat) (sta : Int) (fin arcs cv pv lv : Value) (V : List Int) (vp vl : Int) (LC : List Value) (cs : List (List Int)) (LP LL : List Int) (a0 : Act) (ds : List Nat) (sr sC tC sP tP sL tL sq : Nat) (k : Nat) (bp bl bq : Bool) (a : Act) (W : World) : Prop :=
 ∃ x : Nat -> Value,a = frameF a0 ds x /\ FI w0 W Q N sta fin arcs cv pv lv V vp vl LC cs LP LL ((frameF a0 ds x).eval (.tmp sr)) (x sC) (x tC) (x sP) (x tP) (x sL) (x tL) k bp bl /\ (bq = true -> x sq = .pointer (some ⟨Q,4,none⟩))
set_option maxHeartbeats 1000000 in
theorem grow3 (ho : Ops3 ops c p l q ds sr uC uP uL sC tC sP tP sL tL sq xp xl) {l0 : Array Bool} {k0 f0 : Nat} (hk0 : k0 <= 1) (hsz : ∀ d ∈ ds,d < a0.tmps.size)
  (hchk : flowB .any ops l0 c p l q k0 = true) (hC : a0.eval (.tmp uC) = cv) (hP : a0.eval (.tmp uP) = pv) (hL : a0.eval (.tmp uL) = lv) (h4 : a0.eval (.tmp 4) = .pointer (some ⟨Q,0,none⟩))
  (hxp : ∀ x,(frameF a0 ds x).eval xp = .int .i64 vp) (hxl : ∀ x,(frameF a0 ds x).eval xl = .int .i64 vl)
  (hfa : ∀ (o : Oper) (a : Act) (W : World) (K : Act -> World -> Prop),o.op = .fieldAddr 33 (.tmp 4) 1 -> a.eval (.tmp 4) = .pointer (some ⟨Q,0,none⟩) -> K (a.put o.dst (.pointer (some ⟨Q,4,none⟩))) W -> o.wp Try.prog a W K Qx)
  (hlen : LC.length <= 1000 /\ LP.length <= 1000 /\ LL.length <= 1000)
  (hS : ∀ (a : Act) (W : World) k bp bl bq,FS w0 Q N sta fin arcs cv pv lv V vp vl LC cs LP LL a0 ds sr sC tC sP tP sL tL sq k bp bl bq a W -> S W)
  (hcall : k0 = 0 -> ∀ i bp bl bq a W,c[0]? = some i -> FS w0 Q N sta fin arcs cv pv lv V vp vl LC cs LP LL a0 ds sr sC tC sP tP sL tL sq 0 bp bl bq a W -> wpOp Try.prog ops Qx i (fun a' W' => FS w0 Q N sta fin arcs cv pv lv V vp vl LC cs LP LL a0 ds sr sC tC sP tP sL tL sq 1 bp bl bq a' W') a W)
  (hend : ∀ (x : Nat -> Value) (W : World),WM w0 W Q N sta fin arcs cv pv lv (x tC) (x tP) (x tL) (LC ++ [(frameF a0 ds x).eval (.tmp sr)]) (cs ++ [V]) (LP ++ [vp]) (LL ++ [vl]) -> x sq = .pointer (some ⟨Q,4,none⟩) -> wpAnyF Try.prog .any ops Qx S fatal f0 (flowL l0 c p l q 5 true true true) (frameF a0 ds x) W)
  {W : World} {x : Nat -> Value} (hI : FI w0 W Q N sta fin arcs cv pv lv V vp vl LC cs LP LL ((frameF a0 ds x).eval (.tmp sr)) (x sC) (x tC) (x sP) (x tP) (x sL) (x tL) k0 false false) :
  wpAnyF Try.prog .any ops Qx S fatal (8 - k0 + f0) (flowL l0 c p l q k0 false false false) (frameF a0 ds x) W:=by
 obtain ⟨iS,hiS,hzS0,hzS1,hzS2⟩:=info_parts infoS
 obtain ⟨i0,hi0,hz0,hz1,hz2⟩:=info_parts Try.info3
 have ne : ∀ (i j : Nat) {a b : Nat},([sC,tC,sP,tP,sL,tL,sq,sr,uC,uP,uL,4] : List Nat)[i]? = some a -> ([sC,tC,sP,tP,sL,tL,sq,sr,uC,uP,uL,4] : List Nat)[j]? = some b -> i ≠ j -> a ≠ b:=fun i j a b h1 h2 h3 h4 => h3 (nodup_at ho.nd h1 (by rw [h4]; exact h2))
 obtain ⟨mC,mtC,mP,mtP,mL,mtL,mq⟩:=ho.dm
 have dn:=ho.dn
 have up : ∀ {x : Nat -> Value} {d : Nat} {v : Value},d ∈ ds -> (frameF a0 ds x).put (some d) v = frameF a0 ds (updX x d v):=fun hd => frame_put ds a0 dn hd
 refine wpAnyF_flow (FS w0 Q N sta fin arcs cv pv lv V vp vl LC cs LP LL a0 ds sr sC tC sP tP sL tL sq) hchk (fun k bp bl bq a W h => hS a W k bp bl bq h) ?_ ?_ ?_ ?_ ?_ (8 - k0) k0 false false false _ W (by unfold leftN; simp; omega) (Nat.le_refl _) (by unfold flowV; simp; omega) ⟨x,rfl,hI,fun h => by cases h⟩
 ·intro k i bp bl bq a W hk hk5 hci hv h
  match k,hk5 with
  | 0,_ => exact hcall (by omega) i bp bl bq a W hci h
  | 1,_ =>
   obtain ⟨x,rfl,hI,hq⟩:=h
   obtain ⟨i',o,e1,e2,e3,e4,e5⟩:=ho.opB
   rw [e1] at hci
   injection hci with hci
   subst hci
   obtain ⟨G,cap,hr,_⟩:=hI.row (Nat.le_refl _)
   refine wpOp_of e2 e5 fun K' hK => wp_lit1 _ 22 _ e3 iS (.slice none 0 0) Try.underlying31 hiS hzS0 hzS1 rfl _ rfl (by rw [hr]; rfl) (hK _ _ ?_)
   rw [e4,up mC]
   refine ⟨_,rfl,?_,fun h => ?_⟩
   ·rw [frame_upd dn mC (ne 0 7 rfl rfl (by decide)),updX_at,updX_no x _ (ne 1 0 rfl rfl (by decide)),updX_no x _ (ne 2 0 rfl rfl (by decide)),updX_no x _ (ne 3 0 rfl rfl (by decide)),updX_no x _ (ne 4 0 rfl rfl (by decide)),updX_no x _ (ne 5 0 rfl rfl (by decide))]
    exact hI.litC _
   ·rw [updX_no x _ (ne 6 0 rfl rfl (by decide))]; exact hq h
  | 2,_ =>
   obtain ⟨x,rfl,hI,hq⟩:=h
   obtain ⟨i',o,e1,e2,e3,e4,e5⟩:=ho.opC
   rw [e1] at hci
   injection hci with hci
   subst hci
   obtain ⟨b,hb,hlit⟩:=hI.lC rfl
   have hm : WM w0 W Q N sta fin arcs cv pv lv cv pv lv LC cs LP LL:=hI.wm
   obtain ⟨G,cap,hr,_⟩:=hI.row (by omega)
   have hone : ((frameF a0 ds x).eval (.tmp sr)).oneCell' = true:=by rw [hr]; rfl
   refine wpOp_of e2 e5 fun K' hK => wp_app_at _ _ 31 e3 (Q + 1) 22 iS (.slice none 0 0) 1 24 Try.underlying31 hiS hzS0 hzS1 hzS2 rfl (by decide) cv LC.length LC ((frame_no ds a0 ho.dx.1).trans hC) hm.oC ⟨b,0,none⟩ 1 1 [(frameF a0 ds x).eval (.tmp sr)] ((frame_at ds a0 mC (hsz _ mC)).trans hb) rfl hlit.news (one_val hone) (by have:=hlen.1; unfold maxLen; omega) (by have:=hlen.1; omega) hm.lt ?_
   intro v' W' ho' hg' hv'
   refine hK _ _ ?_
   rw [e4,up mtC]
   refine ⟨_,rfl,?_,fun h => ?_⟩
   ·rw [frame_upd dn mtC (ne 1 7 rfl rfl (by decide)),updX_at,updX_no x _ (ne 0 1 rfl rfl (by decide)),updX_no x _ (ne 2 1 rfl rfl (by decide)),updX_no x _ (ne 3 1 rfl rfl (by decide)),updX_no x _ (ne 4 1 rfl rfl (by decide)),updX_no x _ (ne 5 1 rfl rfl (by decide))]
    exact hI.growC hg' ho' hv'
   ·rw [updX_no x _ (ne 6 1 rfl rfl (by decide))]; exact hq h
  | 3,_ =>
   obtain ⟨x,rfl,hI,hq⟩:=h
   have hbp : bp = true:=by unfold flowV at hv; cases bp <;> simp at hv ⊢
   subst hbp
   obtain ⟨i',o,e1,e2,e3,e4,e5⟩:=ho.opD
   rw [e1] at hci
   injection hci with hci
   subst hci
   obtain ⟨b,hb,hlit⟩:=hI.lP rfl (by decide)
   have hm : WM w0 W Q N sta fin arcs cv pv lv (x tC) pv lv (LC ++ [(frameF a0 ds x).eval (.tmp sr)]) (cs ++ [V]) LP LL:=hI.wm
   refine wpOp_of e2 e5 fun K' hK => wp_app_at _ _ 22 e3 (Q + 1) 3 i0 (.int .i64 0) 1 8 Try.underlying22 hi0 hz0 hz1 hz2 rfl (by decide) pv LP.length (intsW LP) ((frame_no ds a0 ho.dx.2.1).trans hP) hm.oP ⟨b,0,none⟩ 1 1 [.int .i64 vp] ((frame_at ds a0 mP (hsz _ mP)).trans hb) rfl hlit.news (one_int _) (by have:=hlen.2.1; unfold maxLen; omega) (by have:=hlen.2.1; omega) hm.lt ?_
   intro v' W' ho' hg' hv'
   refine hK _ _ ?_
   rw [e4,up mtP]
   refine ⟨_,rfl,?_,fun h => ?_⟩
   ·rw [frame_upd dn mtP (ne 3 7 rfl rfl (by decide)),updX_at,updX_no x _ (ne 0 3 rfl rfl (by decide)),updX_no x _ (ne 1 3 rfl rfl (by decide)),updX_no x _ (ne 2 3 rfl rfl (by decide)),updX_no x _ (ne 4 3 rfl rfl (by decide)),updX_no x _ (ne 5 3 rfl rfl (by decide))]
    exact hI.growP hg' ho' hv'
   ·rw [updX_no x _ (ne 6 3 rfl rfl (by decide))]; exact hq h
  | 4,_ =>
   obtain ⟨x,rfl,hI,hq⟩:=h
   have hbp : bp = true /\ bl = true:=by unfold flowV at hv; cases bp <;> cases bl <;> simp at hv ⊢
   obtain ⟨rfl,rfl⟩:=hbp
   obtain ⟨i',o,e1,e2,e3,e4,e5⟩:=ho.opE
   rw [e1] at hci
   injection hci with hci
   subst hci
   obtain ⟨b,hb,hlit⟩:=hI.lL rfl (by decide)
   have hm : WM w0 W Q N sta fin arcs cv pv lv (x tC) (x tP) lv (LC ++ [(frameF a0 ds x).eval (.tmp sr)]) (cs ++ [V]) (LP ++ [vp]) LL:=hI.wm
   refine wpOp_of e2 e5 fun K' hK => wp_app_at _ _ 22 e3 (Q + 1) 3 i0 (.int .i64 0) 1 8 Try.underlying22 hi0 hz0 hz1 hz2 rfl (by decide) lv LL.length (intsW LL) ((frame_no ds a0 ho.dx.2.2.1).trans hL) hm.oL ⟨b,0,none⟩ 1 1 [.int .i64 vl] ((frame_at ds a0 mL (hsz _ mL)).trans hb) rfl hlit.news (one_int _) (by have:=hlen.2.2; unfold maxLen; omega) (by have:=hlen.2.2; omega) hm.lt ?_
   intro v' W' ho' hg' hv'
   refine hK _ _ ?_
   rw [e4,up mtL]
   refine ⟨_,rfl,?_,fun h => ?_⟩
   ·rw [frame_upd dn mtL (ne 5 7 rfl rfl (by decide)),updX_at,updX_no x _ (ne 0 5 rfl rfl (by decide)),updX_no x _ (ne 1 5 rfl rfl (by decide)),updX_no x _ (ne 2 5 rfl rfl (by decide)),updX_no x _ (ne 3 5 rfl rfl (by decide)),updX_no x _ (ne 4 5 rfl rfl (by decide))]
    exact hI.growL hg' ho' hv'
   ·rw [updX_no x _ (ne 6 5 rfl rfl (by decide))]; exact hq h
 ·intro k bl bq a W _ _ h
  obtain ⟨x,rfl,hI,hq⟩:=h
  obtain ⟨o,e2,e3,e4,e5⟩:=ho.opP
  refine wpOp_of e2 e5 fun K' hK => wp_lit1 _ 3 _ e3 i0 (.int .i64 0) Try.underlying22 hi0 hz0 hz1 rfl _ (hxp x) rfl (hK _ _ ?_)
  rw [e4,up mP]
  refine ⟨_,rfl,?_,fun h => ?_⟩
  ·rw [frame_upd dn mP (ne 2 7 rfl rfl (by decide)),updX_at,updX_no x _ (ne 0 2 rfl rfl (by decide)),updX_no x _ (ne 1 2 rfl rfl (by decide)),updX_no x _ (ne 3 2 rfl rfl (by decide)),updX_no x _ (ne 4 2 rfl rfl (by decide)),updX_no x _ (ne 5 2 rfl rfl (by decide))]
   exact hI.litP _
  ·rw [updX_no x _ (ne 6 2 rfl rfl (by decide))]; exact hq h
 ·intro k bp bq a W _ _ h
  obtain ⟨x,rfl,hI,hq⟩:=h
  obtain ⟨o,e2,e3,e4,e5⟩:=ho.opL
  refine wpOp_of e2 e5 fun K' hK => wp_lit1 _ 3 _ e3 i0 (.int .i64 0) Try.underlying22 hi0 hz0 hz1 rfl _ (hxl x) rfl (hK _ _ ?_)
  rw [e4,up mL]
  refine ⟨_,rfl,?_,fun h => ?_⟩
  ·rw [frame_upd dn mL (ne 4 7 rfl rfl (by decide)),updX_at,updX_no x _ (ne 0 4 rfl rfl (by decide)),updX_no x _ (ne 1 4 rfl rfl (by decide)),updX_no x _ (ne 2 4 rfl rfl (by decide)),updX_no x _ (ne 3 4 rfl rfl (by decide)),updX_no x _ (ne 5 4 rfl rfl (by decide))]
   exact hI.litL _
  ·rw [updX_no x _ (ne 6 4 rfl rfl (by decide))]; exact hq h
 ·intro k bp bl a W _ _ h
  obtain ⟨x,rfl,hI,_⟩:=h
  obtain ⟨o,e2,e4,e5,e3⟩:=ho.opQ
  refine wpOp_of e2 e5 fun K' hK => hfa o _ W K' e3 ((frame_no ds a0 ho.dx.2.2.2).trans h4) (hK _ _ ?_)
  rw [e4,up mq]
  refine ⟨_,rfl,?_,fun _ => updX_at _ _ _⟩
  rw [frame_upd dn mq (ne 6 7 rfl rfl (by decide)),updX_no x _ (ne 0 6 rfl rfl (by decide)),updX_no x _ (ne 1 6 rfl rfl (by decide)),updX_no x _ (ne 2 6 rfl rfl (by decide)),updX_no x _ (ne 3 6 rfl rfl (by decide)),updX_no x _ (ne 4 6 rfl rfl (by decide)),updX_no x _ (ne 5 6 rfl rfl (by decide))]
  exact hI
 ·intro a W h
  obtain ⟨x,rfl,hI,hq⟩:=h
  exact hend x W hI.last (hq rfl)
end
end Go.Proofs.Yteehgcbjmdideab
/- Three rows that grow in one statement: small laws for its use. -/
namespace Go.Proofs.Yteehgcbjmdideab
open Go.RowKit
open Go
theorem wp_field1 {Qx : Exit -> Act -> World -> Prop} {Q : Nat} (o : Oper) (a : Act) (W : World) (K : Act -> World -> Prop) (ho : o.op = .fieldAddr 33 (.tmp 4) 1) (h4 : a.eval (.tmp 4) = .pointer (some ⟨Q,0,none⟩)) (h : K (a.put o.dst (.pointer (some ⟨Q,4,none⟩))) W) : o.wp Try.prog a W K Qx:=by
 unfold Oper.wp execOp
 simp only [ho,h4]
 go_simp
 exact h
theorem wp_begun {Qx : Exit -> Act -> World -> Prop} (o : Oper) (a : Act) (W : World) (K : Act -> World -> Prop) (v : Value) (T : Ending -> World -> Prop) (s : Nat) (ho : o.op = .call { callee:=.value (.func 37),args:=#[.tmp s],argTypes:=#[25] }) (h18 : a.eval (.tmp s) = v) (hC : Calls Try.prog 37 #[v] W T) (hr : ∀ e W',T e W' -> ∃ u,e = .returned u) (h : ∀ u W',T (.returned u) W' -> K (a.put o.dst u) W') : o.wp Try.prog a W K Qx:=by
 unfold Oper.wp execOp
 simp only [ho]
 go_simp
 have e1 : a.tmps[s]?.getD undef = v:=by simpa [Act.eval] using h18
 rw [e1]
 refine hC.mono ?_
 intro e W' hT
 obtain ⟨u,rfl⟩:=hr e W' hT
 exact h u W' hT
theorem put_self (a : Act) (d : Nat) : a.put (some d) (a.tmps.getD d undef) = a:=by
 obtain ⟨t,ds⟩:=a
 simp only [Act.put]
 congr 1
 apply Array.ext_getElem?
 intro i
 by_cases e : d = i
 ·subst e
  by_cases hs : d < t.size
  ·simp [Array.getD_eq_getD_getElem?,hs]
  ·rw [Array.setIfInBounds_eq_of_size_le (by omega)]
 ·rw [Array.getElem?_setIfInBounds_ne e]
theorem frame_self : ∀ (ds : List Nat) (a : Act),frameF a ds (fun d => a.tmps.getD d undef) = a
 | [],_ => rfl
 | d :: ds,a => by
  unfold frameF
  rw [put_self]
  exact frame_self ds a
section
variable {ops : Array Oper} {Qx : Exit -> Act -> World -> Prop} {S : World -> Prop} {fatal : List Nat} {a0 : Act} {ds : List Nat} {c : List Nat} {p l q sr uC uP uL sC tC sP tP sL tL sq : Nat} {xp xl : Operand}
 {w0 : World} {Q N : Nat} {sta : Int} {fin arcs cv pv lv : Value} {V : List Int} {vp vl : Int} {LC : List Value} {cs : List (List Int)} {LP LL : List Int}
theorem FS.begun {k : Nat} {bp bl bq : Bool} {a : Act} {W Wx : World} {G cap : Nat} (hk : k = 0) (hn : ds.Nodup) (hm : sr ∈ ds) (hs : sr < a0.tmps.size) (hne : sr ≠ sC /\ sr ≠ tC /\ sr ≠ sP /\ sr ≠ tP /\ sr ≠ sL /\ sr ≠ tL /\ sr ≠ sq) (h : FS w0 Q N sta fin arcs cv pv lv V vp vl LC cs LP LL a0 ds sr sC tC sP tP sL tL sq k bp bl bq a W) (hb : Below W.heap.size W Wx) (hr : RowAt Wx Q N G V cv pv lv) :
  FS w0 Q N sta fin arcs cv pv lv V vp vl LC cs LP LL a0 ds sr sC tC sP tP sL tL sq 1 bp bl bq (a.put (some sr) (.slice (some ⟨G,0,none⟩) N cap)) Wx:=by
 subst hk
 obtain ⟨x,rfl,hI,hq⟩:=h
 rw [frame_put ds a0 hn hm]
 refine ⟨_,rfl,?_,fun h => ?_⟩
 ·rw [frame_at ds a0 hm hs,updX_at,updX_no x _ hne.1.symm,updX_no x _ hne.2.1.symm,updX_no x _ hne.2.2.1.symm,updX_no x _ hne.2.2.2.1.symm,updX_no x _ hne.2.2.2.2.1.symm,updX_no x _ hne.2.2.2.2.2.1.symm]
  exact hI.begun hb hr
 ·rw [updX_no x _ hne.2.2.2.2.2.2.symm]; exact hq h
end
theorem act_gen {P : Program} {md : Region.Mode} {ops : Array Oper} {Q : Exit -> Act -> World -> Prop} {S : World -> Prop} {fatal : List Nat} {fuel : Nat} {listed : Array Bool} {a : Act} {w : World} (h : ∀ a0,a0 = a -> wpAnyF P md ops Q S fatal fuel listed a0 w) : wpAnyF P md ops Q S fatal fuel listed a w:=h a rfl
end Go.Proofs.Yteehgcbjmdideab
