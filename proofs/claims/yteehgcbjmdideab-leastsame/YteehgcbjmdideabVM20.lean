/- 'Early' of package oneway: the walk. -/
import Derived.Test.YteehgcbjmdideabVM19
import Derived.Test.YteehgcbjmdideabVM18
namespace Go.Proofs.Yteehgcbjmdideab
open Go.RowKit
attribute [local go_sem ↓] Go.wp_at_zero Go.wp_at_succ
theorem ArcsB.mono {B B' m : Nat} {w : World} {ba : Option Addr} {ars : List ArcD} (h : ArcsB B w ba m ars) (hB : B' <= B) : ArcsB B' w ba m ars:=by
 rcases h with h | ⟨ga,rfl,h0,h1,h2⟩
 ·exact Or.inl h
 ·exact Or.inr ⟨ga,rfl,by omega,h1,h2⟩
def MovOk (w : World) (N s0 m : Nat) (d : FstD) (e : Ending) (w' : World) : Prop:=∃ g1 c1 ba bc,e = .returned (.agg #[.int .i64 (N : Int),.int .i64 (s0 : Int),.slice (some ⟨g1,0,none⟩) N c1,.slice ba m bc]) /\ NumsAt w' g1 N d.final /\ w.heap.size <= g1 /\ ArcsB w.heap.size w' ba m d.arcs /\ Below w.heap.size w w'
theorem moved_ok (f : FstD) (N s0 m : Nat) (ah : List Int) (fin arcs hv : Value) (w : World) (hN : f.states = (N : Int)) (hsta : f.start = (s0 : Int)) (hN1 : 1 <= N) (hN2 : N <= 300) (hfl : f.final.length = N) (hhl : ah.length = N) (hal : f.arcs.length = m) (hmany : m <= 3000) (har : ∀ a ∈ f.arcs,(0 <= a.src /\ a.src < N) /\ (0 <= a.dst /\ a.dst < N))
  (hbF : ∀ s,-10000000000000 <= gI f.final s /\ gI f.final s <= 10000000000000) (hbW : ∀ a ∈ f.arcs,-10000000000000 <= a.wt /\ a.wt <= 10000000000000) (hbA : ∀ s,-10000000000000 <= gI ah s /\ gI ah s <= 10000000000000) (hf : ISlice w fin f.final) (ha : ASlice w arcs f.arcs) (hh : ISlice w hv ah) :
  Calls Try.prog 67 #[.agg #[.int .i64 (N : Int),.int .i64 (s0 : Int),fin,arcs],hv] w fun e w' => MovOk w N s0 m (movD f ah) e w':=by
 rw [<- hsta]
 refine (moved_any f N ah fin arcs hv w hN hN1 hN2 hfl hhl (by omega) (fun a h => ⟨a.src.toNat,a.dst.toNat,by have:=har a h; omega,by have:=har a h; omega,by have:=har a h; omega,by have:=har a h; omega⟩) hbF hbW hbA hf ha hh).mono ?_
 rintro e w' ⟨g1,n,c1,ba,m',bc,rfl,h1,h2,_,h4,h5⟩
 obtain rfl : N = n:=by
  have e1:=h1.len
  have e2 : (movD f ah).final.length = f.final.length:=movF_len _ _ _
  omega
 obtain rfl : m = m':=by
  have e1:=h4.len
  have e2 : (movD f ah).arcs.length = f.arcs.length:=List.length_map ..
  omega
 refine ⟨g1,c1,ba,bc,?_,h1,h2,h4,h5⟩
 rw [show (movD f ah).states = (N : Int) from hN,show (movD f ah).start = (s0 : Int) from hsta]
end Go.Proofs.Yteehgcbjmdideab
/- What it costs from a state to an end; all weights together; each subset leads to an end. -/
namespace Go.Proofs.Yteehgcbjmdideab
theorem wdr_split {g : FstD} {u : List Int} {s : Nat} : ∀ (v : List Int) (k : Nat) (z : Int),WdR g s (v ++ u) k z ↔ ∃ m z1,WdR g s u m z1 /\ WdR g m v k (z - z1)
 | [],k,z => by
  constructor
  ·intro h; exact ⟨k,z,h,rfl,by omega⟩
  ·rintro ⟨m,z1,h,rfl,e⟩
   obtain rfl : z = z1:=by omega
   exact h
 | x :: v,k,z => by
  constructor
  ·rintro ⟨a,ha,n',z',hr,hi,hs,hd,rfl⟩
   obtain ⟨m,z1,h1,h2⟩:=(wdr_split v n' z').1 hr
   exact ⟨m,z1,h1,a,ha,n',_,h2,hi,hs,hd,by omega⟩
  ·rintro ⟨m,z1,h1,a,ha,n',z',hr,hi,hs,hd,e⟩
   refine ⟨a,ha,n',z' + z1,(wdr_split v n' _).2 ⟨m,z1,h1,?_⟩,hi,hs,hd,by omega⟩
   rw [show z' + z1 - z1 = z' by omega]
   exact hr
structure GIn (g : FstD) (K : Nat) : Prop where
 st : g.states = (K : Int)
 flen : g.final.length = K
 fin : ∀ x ∈ g.final,x = -1 \/ 0 <= x
 arcs : ∀ a ∈ g.arcs,(0 <= a.src /\ a.src < K) /\ (0 <= a.dst /\ a.dst < K) /\ 0 <= a.wt
theorem GIn.least {g : FstD} {K : Nat} (h : GIn g K) (v : Nat) : IsLeast (edT g) g.final v (gI (toD g) v):=by
 have:=rounds_are (E:=edT g) (b:=g.final) (edT g).reverse (fun e => List.mem_reverse) (fun e he => by
  obtain ⟨a,ha,rfl⟩:=List.mem_map.1 he
  have:=h.arcs a ha
  exact ⟨by show a.src.toNat < _; have:=h.flen; omega,this.2.2⟩) (fun v => gI_of _ (fun x => x = -1 \/ 0 <= x) h.fin (Or.inl rfl) v) v
 unfold toD
 rw [h.st,Int.toNat_natCast,<- h.flen]
 exact this
theorem way_word {g : FstD} {K : Nat} (h : GIn g K) : ∀ (d n : Nat) (x : Int),WayN (edT g) g.final d n x -> ∃ v k z,WdR g n v k z /\ 0 <= gI g.final k /\ x = z + gI g.final k
 | 0,n,x,hw => by
  obtain ⟨h1,h2⟩:=hw
  exact ⟨[],n,0,⟨rfl,rfl⟩,by omega,by omega⟩
 | d + 1,n,x,hw => by
  obtain ⟨e,he,hv,c,hc,rfl⟩:=hw
  obtain ⟨a,ha,rfl⟩:=List.mem_map.1 he
  have hv' : a.src.toNat = n:=hv
  have hc' : WayN (edT g) g.final d a.dst.toNat c:=hc
  obtain ⟨v,k,z,h1,h2,h3⟩:=way_word h d a.dst.toNat c hc'
  have hb:=h.arcs a ha
  refine ⟨v ++ [a.inp],k,z + a.wt,(wdr_first v n _).2 ⟨a,ha,a.dst.toNat,by omega,rfl,by omega,?_⟩,h2,?_⟩
  ·rw [show z + a.wt - a.wt = z by omega]; exact h1
  ·show c + a.wt = _
   omega
theorem word_way {g : FstD} {k : Nat} (h0 : 0 <= gI g.final k) : ∀ v : List Int,∀ (n : Nat) (z : Int),WdR g n v k z -> WayN (edT g) g.final v.length n (z + gI g.final k):=by
 refine snoc_ind ?_ ?_
 ·intro n z hr
  obtain ⟨rfl,rfl⟩:=hr
  exact ⟨by omega,by omega⟩
 ·intro v c ih n z hr
  obtain ⟨a,ha,m,hs,hi,hd,hr⟩:=(wdr_first v n z).1 hr
  have h1:=ih m _ hr
  rw [List.length_append,List.length_singleton]
  refine ⟨edgOf ArcD.dst ArcD.src a,List.mem_map.2 ⟨a,ha,rfl⟩,?_,z - a.wt + gI g.final k,?_,?_⟩
  ·show a.src.toNat = n; omega
  ·show WayN _ _ _ a.dst.toNat _
   rw [hd,Int.toNat_natCast]
   exact h1
  ·show _ = _ + a.wt; omega
theorem GIn.to {g : FstD} {K : Nat} (h : GIn g K) (n : Nat) :
  (gI (toD g) n = -1 /\ ∀ v k z,WdR g n v k z -> gI g.final k = -1) \/
  (0 <= gI (toD g) n /\ (∃ v k z,WdR g n v k z /\ 0 <= gI g.final k /\ gI (toD g) n = z + gI g.final k) /\ ∀ v k z,WdR g n v k z -> 0 <= gI g.final k -> gI (toD g) n <= z + gI g.final k):=by
 have hf : ∀ k,gI g.final k = -1 \/ 0 <= gI g.final k:=fun k => gI_of _ (fun x => x = -1 \/ 0 <= x) h.fin (Or.inl rfl) k
 rcases h.least n with ⟨h1,h2⟩ | ⟨h1,⟨d,h2⟩,h3⟩
 ·refine Or.inl ⟨h1,fun v k z hr => ?_⟩
  rcases hf k with e | e
  ·exact e
  ·exact absurd (word_way e v n z hr) (h2 _ _)
 ·exact Or.inr ⟨h1,way_word h d n _ h2,fun v k z hr h0 => h3 _ _ (word_way h0 v n z hr)⟩
theorem GIn.to_arc {g : FstD} {K : Nat} (h : GIn g K) {a : ArcD} (ha : a ∈ g.arcs) (hd : 0 <= gI (toD g) a.dst.toNat) : 0 <= gI (toD g) a.src.toNat /\ gI (toD g) a.src.toNat <= a.wt + gI (toD g) a.dst.toNat:=by
 have hb:=h.arcs a ha
 rcases h.to a.dst.toNat with ⟨e,_⟩ | ⟨_,⟨v,k,z,h1,h2,h3⟩,_⟩
 ·omega
 ·have hr : WdR g a.src.toNat (v ++ [a.inp]) k (z + a.wt):=(wdr_first v _ _).2 ⟨a,ha,a.dst.toNat,by omega,rfl,by omega,by rw [show z + a.wt - a.wt = z by omega]; exact h1⟩
  rcases h.to a.src.toNat with ⟨_,h4⟩ | ⟨h4,_,h5⟩
  ·have:=h4 _ _ _ hr; omega
  ·have:=h5 _ _ _ hr h2
   exact ⟨h4,by omega⟩
theorem GIn.to_fin {g : FstD} {K : Nat} (h : GIn g K) {n : Nat} (h0 : 0 <= gI g.final n) : 0 <= gI (toD g) n /\ gI (toD g) n <= gI g.final n:=by
 rcases h.to n with ⟨_,h4⟩ | ⟨h4,_,h5⟩
 ·have:=h4 [] n 0 ⟨rfl,rfl⟩; omega
 ·have:=h5 [] n 0 ⟨rfl,rfl⟩ h0
  exact ⟨h4,by omega⟩
theorem bestP_exists {f : FstD} {l : List Int} {s0 N : Nat} (hA : AccD f) (hW : WideA f N) : ∃ x,BestP f l l s0 x:=by
 by_cases h : ∃ y,TotP f l l s0 y
 ·obtain ⟨x,h1,h2⟩:=least_of (fun y => TotP f l l s0 y) (fun y hy => by
   obtain ⟨n,z,hr,h0,rfl⟩:=(tot_word hA l s0 y).1 hy
   have:=hr.nonneg hW
   omega) h
  refine ⟨x,Or.inr ⟨?_,h1,h2⟩⟩
  obtain ⟨n,z,hr,h0,rfl⟩:=(tot_word hA l s0 x).1 h1
  have:=hr.nonneg hW
  omega
 ·exact ⟨-1,Or.inl ⟨rfl,fun y hy => h ⟨y,hy⟩⟩⟩
def sumW (l : List ArcD) : Int:=(l.map (fun a => a.wt)).sum
def mostF (l : List Int) : Int:=l.foldl (fun m x => if x > m then x else m) 0
def allD (f : FstD) : Int:=sumW f.arcs + mostF f.final
theorem sumW_cons (a : ArcD) (l : List ArcD) : sumW (a :: l) = a.wt + sumW l:=by unfold sumW; rw [List.map_cons,List.sum_cons]
theorem sumW_filter {p : ArcD -> Bool} : ∀ {l : List ArcD},(∀ a ∈ l,0 <= a.wt) -> 0 <= sumW (l.filter p) /\ sumW (l.filter p) <= sumW l
 | [],_ => by simp [sumW]
 | b :: l,h => by
  have ih:=sumW_filter (p:=p) (l:=l) (fun a ha => h a (List.mem_cons_of_mem _ ha))
  have hb:=h b List.mem_cons_self
  rw [sumW_cons]
  cases hp : p b with
  | true => rw [List.filter_cons_of_pos hp,sumW_cons]; omega
  | false => rw [List.filter_cons_of_neg (by simp [hp])]; omega
theorem sumW_more {p q : ArcD -> Bool} {a : ArcD} : ∀ {l : List ArcD},(∀ b ∈ l,0 <= b.wt) -> (∀ b,p b = true -> q b = true) -> a ∈ l -> p a = false -> q a = true -> sumW (l.filter p) + a.wt <= sumW (l.filter q)
 | [],_,_,h,_,_ => by cases h
 | b :: l,hw,hpq,hm,hp,hq => by
  have hb:=hw b List.mem_cons_self
  have hw' : ∀ c ∈ l,0 <= c.wt:=fun c hc => hw c (List.mem_cons_of_mem _ hc)
  have hle : sumW (l.filter p) <= sumW (l.filter q):=by
   clear hm hp hq hw hb
   induction l with
   | nil => exact Int.le_refl _
   | cons c l ih =>
    have ih:=ih (fun d hd => hw' d (List.mem_cons_of_mem _ hd))
    have hc:=hw' c List.mem_cons_self
    cases h1 : p c with
    | true => rw [List.filter_cons_of_pos h1,List.filter_cons_of_pos (hpq c h1),sumW_cons,sumW_cons]; omega
    | false =>
     rw [List.filter_cons_of_neg (by simp [h1])]
     cases h2 : q c with
     | true => rw [List.filter_cons_of_pos h2,sumW_cons]; omega
     | false => rw [List.filter_cons_of_neg (by simp [h2])]; exact ih
  by_cases hin : a ∈ l
  ·have ih:=sumW_more (p:=p) (q:=q) (a:=a) hw' hpq hin hp hq
   cases h1 : p b with
   | true => rw [List.filter_cons_of_pos h1,List.filter_cons_of_pos (hpq b h1),sumW_cons,sumW_cons]; omega
   | false =>
    rw [List.filter_cons_of_neg (by simp [h1])]
    cases h2 : q b with
    | true => rw [List.filter_cons_of_pos h2,sumW_cons]; omega
    | false => rw [List.filter_cons_of_neg (by simp [h2])]; exact ih
  ·have : a = b:=by
    rcases List.mem_cons.1 hm with h | h
    ·exact h
    ·exact absurd h hin
   subst this
   rw [List.filter_cons_of_neg (by simp [hp]),List.filter_cons_of_pos hq,sumW_cons]
   omega
theorem path_cap {f : FstD} {N s0 : Nat} {r : Nat -> Nat} (hW : WideA f N) (hr : ∀ e ∈ edgesE f.arcs,r e.1 < r e.2) : ∀ (u : List Int) (n : Nat) (z : Int),WdR f s0 u n z -> z <= sumW (f.arcs.filter (fun a => decide (r a.dst.toNat <= r n)))
 | [],n,z,h => by
  obtain ⟨_,rfl⟩:=h
  exact (sumW_filter (fun a ha => (hW a ha).2.2.1)).1
 | c :: u,n,z,h => by
  obtain ⟨a,ha,n',z',h1,_,hs,hd,rfl⟩:=h
  have ih:=path_cap hW hr u n' z' h1
  have hlt:=hr _ (List.mem_map.2 ⟨a,ha,rfl⟩)
  dsimp only at hlt
  rw [hs,hd,Int.toNat_natCast,Int.toNat_natCast] at hlt
  have:=sumW_more (p:=fun a => decide (r a.dst.toNat <= r n')) (q:=fun a => decide (r a.dst.toNat <= r n)) (a:=a) (l:=f.arcs) (fun a ha => (hW a ha).2.2.1) (fun b hb => by
   have:=of_decide_eq_true hb
   exact decide_eq_true (by omega)) ha (by rw [hd,Int.toNat_natCast]; exact decide_eq_false (by omega)) (by rw [hd,Int.toNat_natCast]; exact decide_eq_true (Nat.le_refl _))
  omega
theorem mostF_ge (l : List Int) : 0 <= mostF l /\ ∀ x ∈ l,x <= mostF l:=by
 unfold mostF
 have key : ∀ (l : List Int) (m : Int),m <= l.foldl (fun m x => if x > m then x else m) m /\ ∀ x ∈ l,x <= l.foldl (fun m x => if x > m then x else m) m:=by
  intro l
  induction l with
  | nil => intro m; exact ⟨Int.le_refl _,fun x hx => by cases hx⟩
  | cons y l ih =>
   intro m
   rw [List.foldl_cons]
   obtain ⟨h1,h2⟩:=ih (if y > m then y else m)
   have h3 : m <= (if y > m then y else m) /\ y <= (if y > m then y else m):=by split <;> omega
   refine ⟨by omega,fun x hx => ?_⟩
   rcases List.mem_cons.1 hx with rfl | hx
   ·omega
   ·exact h2 x hx
 exact ⟨(key l 0).1,(key l 0).2⟩
theorem tot_cap {f : FstD} {N s0 : Nat} {r : Nat -> Nat} (hf : SubIn f N s0) (hr : ∀ e ∈ edgesE f.arcs,r e.1 < r e.2) {l : List Int} {y : Int} (h : TotP f l l s0 y) : y <= allD f:=by
 obtain ⟨n,z,h1,h2,rfl⟩:=(tot_word hf.acc l s0 y).1 h
 have h3:=path_cap hf.wide hr _ n z h1
 have h4:=(sumW_filter (p:=fun a => decide (r a.dst.toNat <= r n)) (l:=f.arcs) (fun a ha => (hf.wide a ha).2.2.1)).2
 have h5:=(mostF_ge f.final).2 _ (gI_mem (c:=f.final) (s:=n) (by have:=h1.lt hf.wide hf.hs; have:=hf.flen; omega))
 unfold allD
 omega
section
variable {f : FstD} {N s0 K : Nat} {g : FstD} {ms : List (List Int)}
theorem Sub.gin (h : Sub f N s0 K g ms) (hf : SubIn f N s0) (hK : K <= 300) : GIn g K:=by
 have hlen:=h.len
 refine ⟨h.st,h.flen,fun x hx => ?_,fun a ha => ?_⟩
 ·obtain ⟨k,hk,rfl⟩:=List.mem_iff_getElem.1 hx
  have hkm : k < ms.length:=by have:=h.flen; omega
  have e:=h.fin k _ (List.getElem?_eq_getElem hkm)
  have e2 : gI g.final k = g.final[k]:=by unfold gI; rw [List.getD_eq_getElem?_getD,List.getElem?_eq_getElem hk,Option.getD_some]
  rw [<- e2,e]
  rcases ownEnd_what hf.flen hf.fin (h.row hK (List.getElem?_eq_getElem hkm)) with ⟨e3,_⟩ | ⟨e3,_⟩
  ·exact Or.inl e3
  ·exact Or.inr e3
 ·obtain ⟨k,l,i,t,_,h9,h1,h2,h3,rfl⟩:=h.part.is a ha
  have hk:=(List.getElem?_eq_some_iff.1 h1).1
  have ht:=(List.getElem?_eq_some_iff.1 h3).1
  dsimp only
  have hc : 0 <= cheapD (nxtL f N l i):=by
   rcases cheapD_what _ (nxt_pr (N:=N) hf.wt h.part.bd h1 (by omega) i) with ⟨e,_⟩ | ⟨e,_⟩
   ·exact absurd e h2
   ·exact e
  omega
theorem Sub.tot (h : Sub f N s0 K g ms) (hf : SubIn f N s0) (hK : K <= 300) {l : List Int} {y : Int} (hy : TotP g l l 0 y) : TotP f l l s0 y:=by
 obtain ⟨x,hx⟩:=bestP_exists (l:=l) (s0:=s0) hf.acc hf.wide
 have hg:=h.best hf hK hx
 rcases hg with ⟨_,h2⟩ | ⟨h1,h2,_⟩
 ·exact absurd hy (h2 y)
 ·rcases hx with ⟨e,_⟩ | ⟨_,hx,_⟩
  ·omega
  ·obtain ⟨k,c,hr,_,rfl⟩:=(tot_word h.acc l 0 x).1 h2
   obtain ⟨k',c',hr',_,rfl⟩:=(tot_word h.acc l 0 y).1 hy
   obtain ⟨rfl,rfl⟩:=h.part.det _ _ _ _ _ hr hr'
   exact hx
theorem Sub.cap (h : Sub f N s0 K g ms) (hf : SubIn f N s0) (hK : K <= 300) {r : Nat -> Nat} (hr : ∀ e ∈ edgesE f.arcs,r e.1 < r e.2) {k : Nat} (hk : k < K) {v : List Int} {m : Nat} {z : Int} (hv : WdR g k v m z) (h0 : 0 <= gI g.final m) : z + gI g.final m <= allD f:=by
 obtain ⟨u,c,hu⟩:=h.part.comes (k + 1) k (by omega) (by rw [h.len]; exact hk)
 have hc : 0 <= c:=(h.part.run hf.wide hf.wt hf.hs hf.hN (by rw [h.len]; exact hK) u k c hu).elim fun _ hh => hh.2.1
 have hall : WdR g 0 (v ++ u) m (c + z):=(wdr_split v m _).2 ⟨k,c,hu,by rw [show c + z - c = z by omega]; exact hv⟩
 have ht : TotP g (v ++ u).reverse (v ++ u).reverse 0 (c + z + gI g.final m):=(tot_word h.acc _ 0 _).2 ⟨m,c + z,by rw [List.reverse_reverse]; exact hall,h0,rfl⟩
 have:=tot_cap hf hr (h.tot hf hK ht)
 omega
theorem Sub.live (h : Sub f N s0 K g ms) (hf : SubIn f N s0) (hK : K <= 300) (hl : ∀ n,n < N -> ∃ v m z,WdR f n v m z /\ 0 <= gI f.final m) {k : Nat} (hk : k < K) : 0 <= gI (toD g) k:=by
 have hms : ms.length <= 300:=by rw [h.len]; exact hK
 obtain ⟨u,c,hu⟩:=h.part.comes (k + 1) k (by omega) (by rw [h.len]; exact hk)
 obtain ⟨n,z,hn⟩:=h.part.row_live hf hms hu
 obtain ⟨v,m,z2,hv,h0⟩:=hl n (hn.lt hf.wide hf.hs)
 have hall : WdR f s0 (v ++ u) m (z + z2):=(wdr_split v m _).2 ⟨n,z,hn,by rw [show z + z2 - z = z2 by omega]; exact hv⟩
 have ht : TotP f (v ++ u).reverse (v ++ u).reverse s0 (z + z2 + gI f.final m):=(tot_word hf.acc _ s0 _).2 ⟨m,z + z2,by rw [List.reverse_reverse]; exact hall,h0,rfl⟩
 obtain ⟨x,hx⟩:=bestP_exists (l:=(v ++ u).reverse) (s0:=s0) hf.acc hf.wide
 have hg:=h.best hf hK hx
 have hgx : TotP g (v ++ u).reverse (v ++ u).reverse 0 x:=by
  rcases hx with ⟨_,h2⟩ | ⟨h1,_,_⟩
  ·exact absurd ht (h2 _)
  ·rcases hg with ⟨e,_⟩ | ⟨_,h2,_⟩
   ·omega
   ·exact h2
 obtain ⟨k',c',hr,h0',_⟩:=(tot_word h.acc _ 0 x).1 hgx
 rw [List.reverse_reverse] at hr
 obtain ⟨q,z1,h1,h2⟩:=(wdr_split v k' c').1 hr
 obtain ⟨rfl,rfl⟩:=h.part.det _ _ _ _ _ hu h1
 rcases (h.gin hf hK).to k with ⟨_,h4⟩ | ⟨h4,_⟩
 ·have:=h4 _ _ _ h2; omega
 ·exact h4
end
end Go.Proofs.Yteehgcbjmdideab
/- What is told ahead of states: the costs stay,and no weight is greater than all weights together. -/
namespace Go.Proofs.Yteehgcbjmdideab
section
variable {g : FstD} {p : List Int}
theorem mov_word {s : Nat} : ∀ (u : List Int) (n : Nat) (z : Int),WdR (movD g p) s u n z ↔ WdR g s u n (z - gI p n + gI p s)
 | [],n,z => by
  constructor
  ·rintro ⟨rfl,rfl⟩; exact ⟨rfl,by omega⟩
  ·rintro ⟨rfl,e⟩; exact ⟨rfl,by omega⟩
 | c :: u,n,z => by
  constructor
  ·rintro ⟨b,hb,n',z',hr,hi,hs,hd,rfl⟩
   obtain ⟨a,ha,rfl⟩:=List.mem_map.1 hb
   have hs' : a.src = (n' : Int):=hs
   have hd' : a.dst = (n : Int):=hd
   refine ⟨a,ha,n',_,(mov_word u n' z').1 hr,hi,hs',hd',?_⟩
   show z' + (a.wt + (gI p a.dst.toNat - gI p a.src.toNat)) - gI p n + gI p s = _
   rw [hs',hd',Int.toNat_natCast,Int.toNat_natCast]
   omega
  ·rintro ⟨a,ha,n',z',hr,hi,hs,hd,e⟩
   refine ⟨movA p a,List.mem_map.2 ⟨a,ha,rfl⟩,n',z' + gI p n' - gI p s,(mov_word u n' _).2 ?_,hi,hs,hd,?_⟩
   ·rw [show z' + gI p n' - gI p s - gI p n' + gI p s = z' by omega]
    exact hr
   ·show z = _ + (a.wt + (gI p a.dst.toNat - gI p a.src.toNat))
    rw [hs,hd,Int.toNat_natCast,Int.toNat_natCast]
    omega
theorem mov_acc (h : AccD g) : AccD (movD g p):=fun b hb => by
 obtain ⟨a,ha,rfl⟩:=List.mem_map.1 hb
 exact h a ha
theorem mov_fin {n : Nat} (hn : n < g.final.length) : gI (movD g p).final n = if gI g.final n = -1 then -1 else gI g.final n - gI p n:=by
 show gI (movF g.final p g.final.length) n = _
 rw [movF_at _ _ _ hn,if_pos hn]
theorem mov_edges : edgesE (movD g p).arcs = edgesE g.arcs:=by
 unfold edgesE
 show (g.arcs.map (movA p)).map _ = _
 rw [List.map_map]
 rfl
end
theorem wdr_rank {g : FstD} {rk : Nat -> Nat} (hr : ∀ e ∈ edgesE g.arcs,rk e.2 < rk e.1) : ∀ (u : List Int) (s n : Nat) (z : Int),WdR g s u n z -> rk n + u.length <= rk s
 | [],s,n,z,h => by obtain ⟨rfl,_⟩:=h; exact Nat.le_refl _
 | c :: u,s,n,z,h => by
  obtain ⟨a,ha,n',z',h1,_,hs,hd,_⟩:=h
  have h2:=wdr_rank hr u s n' z' h1
  have h3:=hr _ (List.mem_map.2 ⟨a,ha,rfl⟩)
  dsimp only at h3
  rw [hs,hd,Int.toNat_natCast,Int.toNat_natCast] at h3
  rw [List.length_cons]
  omega
structure DetOut (f : FstD) (s0 K : Nat) (x : FstD) : Prop where
 st : x.states = (K : Int)
 sta : x.start = 0
 flen : x.final.length = K
 fin : ∀ y ∈ x.final,y = -1 \/ (0 <= y /\ y <= allD f)
 arcs : ∀ a ∈ x.arcs,(0 <= a.src /\ a.src < K) /\ (0 <= a.dst /\ a.dst < K) /\ (1 <= a.inp /\ a.inp <= 9) /\ a.out = a.inp /\ 0 <= a.wt /\ a.wt <= allD f
 ord : x.arcs.Pairwise (fun a b => a.src < b.src \/ (a.src = b.src /\ a.inp < b.inp))
 rank : ∃ rk : Nat -> Nat,∀ e ∈ edgesE x.arcs,rk e.2 < rk e.1
 best : ∀ (l : List Int) (y : Int),BestP f l l s0 y -> BestP x l l 0 y
section
variable {f : FstD} {N s0 K : Nat} {g : FstD} {ms : List (List Int)}
theorem Sub.arc_in (h : Sub f N s0 K g ms) {a : ArcD} (ha : a ∈ g.arcs) : (1 <= a.inp /\ a.inp <= 9) /\ a.out = a.inp:=by
 obtain ⟨k,l,i,t,_,h9,h1,h2,h3,rfl⟩:=h.part.is a ha
 dsimp only
 omega
theorem Sub.no_back (h : Sub f N s0 K g ms) (hf : SubIn f N s0) (hK : K <= 300) {rk : Nat -> Nat} (hr : ∀ e ∈ edgesE g.arcs,rk e.2 < rk e.1) {a : ArcD} (ha : a ∈ g.arcs) : a.dst ≠ 0:=by
 intro hd
 have hb:=(h.gin hf hK).arcs a ha
 obtain ⟨u,c,hu⟩:=h.part.comes (a.src.toNat + 1) a.src.toNat (by omega) (by rw [h.len]; omega)
 have h1:=wdr_rank hr u 0 _ _ hu
 have h2:=hr _ (List.mem_map.2 ⟨a,ha,rfl⟩)
 dsimp only at h2
 rw [hd] at h2
 have : rk (Int.toNat 0) = rk 0:=rfl
 omega
theorem GIn.moved {g : FstD} {K : Nat} (h : GIn g K) (hl : ∀ k,k < K -> 0 <= gI (toD g) k) {a : ArcD} (ha : a ∈ g.arcs) : 0 <= (movA (toD g) a).wt /\ (movA (toD g) a).wt <= a.wt + gI (toD g) a.dst.toNat:=by
 have hb:=h.arcs a ha
 have h1:=hl a.dst.toNat (by omega)
 have h2:=h.to_arc ha h1
 show 0 <= a.wt + (gI (toD g) a.dst.toNat - gI (toD g) a.src.toNat) /\ a.wt + (gI (toD g) a.dst.toNat - gI (toD g) a.src.toNat) <= _
 omega
theorem Sub.to_cap (h : Sub f N s0 K g ms) (hf : SubIn f N s0) (hK : K <= 300) {r : Nat -> Nat} (hr : ∀ e ∈ edgesE f.arcs,r e.1 < r e.2) {k : Nat} (hk : k < K) : gI (toD g) k <= allD f:=by
 rcases (h.gin hf hK).to k with ⟨e,_⟩ | ⟨_,⟨v,m,z,h1,h2,h3⟩,_⟩
 ·have h1:=(mostF_ge f.final).1
  have h2:=(sumW_filter (p:=fun _ => true) (l:=f.arcs) (fun a ha => (hf.wide a ha).2.2.1))
  unfold allD
  omega
 ·have:=h.cap hf hK hr hk h1 h2
  omega
theorem Sub.arc_cap (h : Sub f N s0 K g ms) (hf : SubIn f N s0) (hK : K <= 300) {r : Nat -> Nat} (hr : ∀ e ∈ edgesE f.arcs,r e.1 < r e.2) {a : ArcD} (ha : a ∈ g.arcs) (h0 : 0 <= gI (toD g) a.dst.toNat) : a.wt + gI (toD g) a.dst.toNat <= allD f:=by
 have hb:=(h.gin hf hK).arcs a ha
 rcases (h.gin hf hK).to a.dst.toNat with ⟨e,_⟩ | ⟨_,⟨v,m,z,h1,h2,h3⟩,_⟩
 ·omega
 ·have hr2 : WdR g a.src.toNat (v ++ [a.inp]) m (z + a.wt):=(wdr_first v _ _).2 ⟨a,ha,a.dst.toNat,by omega,rfl,by omega,by rw [show z + a.wt - a.wt = z by omega]; exact h1⟩
  have:=h.cap hf hK hr (by omega) hr2 h2
  omega
theorem Sub.back (h : Sub f N s0 K g ms) (hf : SubIn f N s0) (hK : K <= 300) (hl : ∀ k,k < K -> 0 <= gI (toD g) k) {rk : Nat -> Nat} (hr : ∀ e ∈ edgesE g.arcs,rk e.2 < rk e.1) : GIn (backF g) K /\ ∀ n,n < K -> gI (toD (backF g)) n = if n = 0 then 0 else -1:=by
 have hG:=h.gin hf hK
 have hst : g.states.toNat = K:=by rw [h.st,Int.toNat_natCast]
 have hbg : ∀ n,n < K -> gI (begL g.start g.states.toNat) n = if n = 0 then 0 else -1:=by
  intro n hn
  rw [h.sta,hst]
  unfold gI begL
  rw [List.getD_eq_getElem?_getD,List.getElem?_map,List.getElem?_range hn]
  show (if (n : Int) = 0 then (0 : Int) else -1) = _
  by_cases e : n = 0
  ·rw [if_pos e,if_pos (by omega)]
  ·rw [if_neg e,if_neg (by omega)]
 have hB : GIn (backF g) K:=by
  refine ⟨h.st,?_,fun x hx => ?_,fun b hb => ?_⟩
  ·show (begL g.start g.states.toNat).length = K
   rw [begL_len,hst]
  ·rcases begL_mem _ _ x hx with e | e <;> omega
  ·obtain ⟨a,ha,rfl⟩:=List.mem_map.1 hb
   have h1:=hG.arcs a ha
   exact ⟨h1.1,h1.2.1,(hG.moved hl ha).1⟩
 refine ⟨hB,fun n hn => ?_⟩
 have hk0:=h.k0
 by_cases e : n = 0
 ·subst e
  rw [if_pos rfl]
  have h0 : gI (backF g).final 0 = 0:=by
   have:=hbg 0 hk0
   rw [if_pos rfl] at this
   exact this
  have:=hB.to_fin (n:=0) (by omega)
  omega
 ·rw [if_neg e]
  rcases hB.to n with ⟨h1,_⟩ | ⟨_,⟨v,k,z,h1,h2,_⟩,_⟩
  ·exact h1
  ·exfalso
   have hkK : k < K:=by
    by_cases hlt : k < K
    ·exact hlt
    ·have : gI (backF g).final k = -1:=gI_out (by rw [hB.flen]; omega)
     omega
   have hk : k = 0:=by
    have h3 : gI (backF g).final k = _:=hbg k hkK
    by_cases e2 : k = 0
    ·exact e2
    ·rw [if_neg e2] at h3; omega
   subst hk
   cases v with
   | nil => exact e h1.1.symm
   | cons c v =>
    obtain ⟨b,hb,n',z',_,_,_,hd,_⟩:=h1
    obtain ⟨a,ha,rfl⟩:=List.mem_map.1 hb
    exact h.no_back hf hK hr ha hd
def potD (g : FstD) (n : Nat) : Int:=if n = 0 then 0 else gI (toD g) n
theorem Sub.pot (h : Sub f N s0 K g ms) (hf : SubIn f N s0) (hK : K <= 300) (hl : ∀ k,k < K -> 0 <= gI (toD g) k) {rk : Nat -> Nat} (hr : ∀ e ∈ edgesE g.arcs,rk e.2 < rk e.1) {n : Nat} (hn : n < K) :
  gI (toD g) n + gI (ahD (toD g) (toD (backF g)) (gI (toD g) g.start.toNat) g.states.toNat) n = potD g n:=by
 have hb:=(h.back hf hK hl hr).2 n hn
 have hlen : (toD g).length = K:=by
  unfold toD
  rw [rounds_len,h.flen]
 have hst : g.states.toNat = K:=by rw [h.st,Int.toNat_natCast]
 have h0:=hl 0 h.k0
 have hs0 : g.start.toNat = 0:=by rw [h.sta]; rfl
 rw [ahD_at _ _ _ _ (by omega),hst,if_pos hn,hb,hs0]
 unfold potD
 by_cases e : n = 0
 ·subst e
  rw [if_pos rfl,if_pos rfl]
  by_cases hb2 : betterB 0 (gI (toD g) 0) = true
  ·rw [if_pos hb2]; omega
  ·rw [if_neg hb2]
   have : ¬ (gI (toD g) 0 = -1 \/ (0 : Int) < gI (toD g) 0):=fun hh => hb2 ((better_iff (by omega) (by omega)).2 ⟨by omega,hh⟩)
   omega
 ·rw [if_neg e,if_neg e]
  have : ¬ betterB (-1) (gI (toD g) 0) = true:=by unfold betterB; simp
  rw [if_neg this]
  omega
theorem Sub.early (h : Sub f N s0 K g ms) (hf : SubIn f N s0) (hK : K <= 300) (hl : ∀ k,k < K -> 0 <= gI (toD g) k) {rk : Nat -> Nat} (hr : ∀ e ∈ edgesE g.arcs,rk e.2 < rk e.1) {r : Nat -> Nat} (hrf : ∀ e ∈ edgesE f.arcs,r e.1 < r e.2) : DetOut f s0 K (earlyD g):=by
 have hG:=h.gin hf hK
 have hpot : ∀ n,n < K -> _:=fun n hn => h.pot hf hK hl hr hn
 obtain ⟨q,hq⟩ : ∃ q,q = ahD (toD g) (toD (backF g)) (gI (toD g) g.start.toNat) g.states.toNat:=⟨_,rfl⟩
 rw [<- hq] at hpot
 have hx : earlyD g = movD (movD g (toD g)) q:=by rw [hq]; rfl
 have hfl1 : (movD g (toD g)).final.length = K:=by show (movF _ _ _).length = K; rw [movF_len,h.flen]
 have hfl : (earlyD g).final.length = K:=by rw [hx]; show (movF _ _ _).length = K; rw [movF_len,hfl1]
 have hcap : ∀ n,n < K -> 0 <= gI g.final n -> potD g n <= gI g.final n /\ gI g.final n <= allD f /\ 0 <= potD g n:=by
  intro n hn h0
  have h1:=hG.to_fin h0
  have h2:=h.cap hf hK hrf hn (v:=[]) (m:=n) (z:=0) ⟨rfl,rfl⟩ h0
  unfold potD
  split <;> omega
 have hfin : ∀ n,n < K -> gI (earlyD g).final n = if gI g.final n = -1 then -1 else gI g.final n - potD g n:=by
  intro n hn
  rw [hx,mov_fin (by omega),mov_fin (by rw [h.flen]; exact hn)]
  by_cases e : gI g.final n = -1
  ·rw [if_pos e,if_pos rfl,if_pos e]
  ·have h0 : 0 <= gI g.final n:=by
    rcases gI_of _ (fun x => x = -1 \/ 0 <= x) hG.fin (Or.inl rfl) n with h1 | h1
    ·exact absurd h1 e
    ·exact h1
   have h1:=hG.to_fin h0
   rw [if_neg e,if_neg (by omega),if_neg e]
   have:=hpot n hn
   omega
 have hfr : ∀ n,n < K -> gI g.final n = -1 \/ 0 <= gI g.final n:=fun n _ => gI_of _ (fun x => x = -1 \/ 0 <= x) hG.fin (Or.inl rfl) n
 have hacc : AccD (earlyD g):=by rw [hx]; exact mov_acc (mov_acc h.acc)
 have harcs : ∀ b ∈ (earlyD g).arcs,∃ a ∈ g.arcs,b = ⟨a.src,a.inp,a.out,a.dst,a.wt + gI (toD g) a.dst.toNat - potD g a.src.toNat⟩:=by
  intro b hb
  rw [hx] at hb
  obtain ⟨b1,hb1,rfl⟩:=List.mem_map.1 hb
  obtain ⟨a,ha,rfl⟩:=List.mem_map.1 hb1
  have hab:=hG.arcs a ha
  have p1:=hpot a.dst.toNat (by omega)
  have p2:=hpot a.src.toNat (by omega)
  have hd:=h.no_back hf hK hr ha
  have e1 : potD g a.dst.toNat = gI (toD g) a.dst.toNat:=by unfold potD; rw [if_neg (by omega)]
  refine ⟨a,ha,?_⟩
  unfold movA
  dsimp only
  have : a.wt + (gI (toD g) a.dst.toNat - gI (toD g) a.src.toNat) + (gI q a.dst.toNat - gI q a.src.toNat) = a.wt + gI (toD g) a.dst.toNat - potD g a.src.toNat:=by omega
  rw [this]
 have hword : ∀ u n z,n < K -> (WdR (earlyD g) 0 u n z ↔ WdR g 0 u n (z - potD g n)):=by
  intro u n z hn
  rw [hx,mov_word,mov_word]
  have p1:=hpot n hn
  have p2:=hpot 0 h.k0
  have e0 : potD g 0 = 0:=rfl
  rw [show z - gI q n + gI q 0 - gI (toD g) n + gI (toD g) 0 = z - potD g n by omega]
 have hKw : WideA g K:=fun a ha => ⟨(hG.arcs a ha).1,(hG.arcs a ha).2.1,(hG.arcs a ha).2.2,by have:=(h.arc_in ha).1; omega,(h.arc_in ha).1.2⟩
 refine ⟨h.st,h.sta,hfl,fun y hy => ?_,fun b hb => ?_,?_,⟨rk,?_⟩,fun l y hb => ?_⟩
 ·obtain ⟨n,hn,rfl⟩:=List.mem_iff_getElem.1 hy
  have e2 : gI (earlyD g).final n = (earlyD g).final[n]:=by unfold gI; rw [List.getD_eq_getElem?_getD,List.getElem?_eq_getElem hn,Option.getD_some]
  rw [<- e2,hfin n (by omega)]
  by_cases e : gI g.final n = -1
  ·rw [if_pos e]; exact Or.inl rfl
  ·rw [if_neg e]
   have h1:=hfr n (by omega)
   have h2:=hcap n (by omega) (by omega)
   right; omega
 ·obtain ⟨a,ha,rfl⟩:=harcs b hb
  have hab:=hG.arcs a ha
  have h1:=h.arc_in ha
  have h2:=hl a.dst.toNat (by omega)
  have h3:=h.arc_cap hf hK hrf ha h2
  have h4:=hG.to_arc ha h2
  dsimp only
  refine ⟨hab.1,hab.2.1,h1.1,h1.2,?_,?_⟩
  ·unfold potD; split <;> omega
  ·unfold potD; split <;> omega
 ·have : (earlyD g).arcs = (g.arcs.map (movA (toD g))).map (movA q):=by rw [hx]; rfl
  rw [this,List.pairwise_map,List.pairwise_map]
  exact h.part.ord
 ·rw [hx,mov_edges,mov_edges]
  exact hr
 ·refine (h.best hf hK hb).of_tot fun y => ?_
  rw [tot_word h.acc,tot_word hacc]
  constructor
  ·rintro ⟨n,z,hw,h0,rfl⟩
   have hn:=hw.lt hKw h.k0
   have h2:=hcap n hn h0
   refine ⟨n,z + potD g n,(hword _ n _ hn).2 (by rw [show z + potD g n - potD g n = z by omega]; exact hw),?_,?_⟩
   ·rw [hfin n hn,if_neg (by omega)]; omega
   ·rw [hfin n hn,if_neg (by omega)]; omega
  ·rintro ⟨n,z,hw,h0,rfl⟩
   have hn : n < K:=by
    by_cases hlt : n < K
    ·exact hlt
    ·rw [gI_out (by omega)] at h0; omega
   rw [hfin n hn] at h0 ⊢
   by_cases e : gI g.final n = -1
   ·rw [if_pos e] at h0; omega
   ·rw [if_neg e] at h0 ⊢
    have h1:=hfr n hn
    exact ⟨n,_,(hword _ n z hn).1 hw,by omega,by omega⟩
theorem mov_zero {K : Nat} (h : GIn g K) : movD g (List.replicate K 0) = g:=by
 have hz : ∀ n,n < K -> gI (List.replicate K (0 : Int)) n = 0:=fun n hn => by unfold gI; simp [List.getD,hn]
 obtain ⟨st,sta,fin,ars⟩:=g
 have e1 : movF fin (List.replicate K 0) fin.length = fin:=by
  have hfl : fin.length = K:=h.flen
  apply List.ext_getElem (by rw [movF_len])
  intro i h1 h2
  have h3 : gI (movF fin (List.replicate K 0) fin.length) i = gI fin i:=by
   rw [movF_at _ _ _ h2,if_pos h2,hz i (by omega)]
   split
   ·rename_i e; exact e.symm
   ·omega
  unfold gI at h3
  rw [List.getD_eq_getElem?_getD,List.getD_eq_getElem?_getD,List.getElem?_eq_getElem h1,List.getElem?_eq_getElem h2] at h3
  exact h3
 have e2 : ars.map (movA (List.replicate K 0)) = ars:=by
  have : ∀ a ∈ ars,movA (List.replicate K 0) a = a:=by
   intro a ha
   have hb:=h.arcs a ha
   unfold movA
   rw [hz _ (by omega),hz _ (by omega)]
   obtain ⟨a1,a2,a3,a4,a5⟩:=a
   simp
  exact (List.map_congr_left (g:=id) this).trans (List.map_id _)
 unfold movD
 dsimp only
 rw [e1,e2]
end
end Go.Proofs.Yteehgcbjmdideab
/- What Determine answers is right,if no weight is too great; words and beginnings. -/
namespace Go.Proofs.Yteehgcbjmdideab
section
variable {f : FstD} {s0 K : Nat} {x : FstD}
theorem DetOut.acc (h : DetOut f s0 K x) : AccD x:=fun a ha => by
 have:=h.arcs a ha
 exact ⟨this.2.2.2.1,by omega⟩
theorem DetOut.ahead (h : DetOut f s0 K x) : x.arcs.Pairwise (fun a b => aheadB a b = true):=h.ord.imp fun hab => (ahead_iff _ _).2 (by omega)
end
theorem words_most {f : FstD} {s0 : Nat} {W L : List (List Int)} (hW : ∀ u,Alive f s0 u -> u ∈ W) (hL : L.Nodup) (hl : ∀ u ∈ L,Alive f s0 u) : L.length <= W.length:=nodup_sub L W hL (fun u hu => hW u (hl u hu))
theorem words_all {f : FstD} {s0 : Nat} {W : List (List Int)} (h0 : [] ∈ W) (h1 : ∀ c u,u ∈ W -> Alive f s0 (c :: u) -> c :: u ∈ W) : ∀ u,Alive f s0 u -> u ∈ W
 | [],_ => h0
 | c :: u,h => h1 c u (words_all h0 h1 u (by
  obtain ⟨n,z,a,ha,n',z',hr,_⟩:=h
  exact ⟨n',z',hr⟩)) h
end Go.Proofs.Yteehgcbjmdideab
