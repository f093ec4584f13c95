/- Where all words cost the same,the least one is the same. -/
import Derived.Test.YteehgcbjmdideabQLmC
import Derived.Test.YteehgcbjmdideabQM03
namespace Go.Proofs.Yteehgcbjmdideab
theorem idx_map {α : Type} {C C2 : α -> Nat} {a a2 : Nat} : ∀ fw : List α,(∀ w ∈ fw,C w = a ↔ C2 w = a2) -> (fw.map C).idxOf a = (fw.map C2).idxOf a2 /\ (a ∈ fw.map C ↔ a2 ∈ fw.map C2)
 | [],_ => ⟨rfl,by simp⟩
 | x :: fw,h => by
  obtain ⟨h1,h2⟩:=idx_map fw fun w hw => h w (List.mem_cons_of_mem _ hw)
  have hx:=h x List.mem_cons_self
  rw [List.map_cons,List.map_cons,List.idxOf_cons,List.idxOf_cons,List.mem_cons,List.mem_cons,h2]
  by_cases e : C x = a
  ·have e2:=hx.1 e
   rw [e,e2]
   simp
  ·have e2 : ¬ C2 x = a2:=fun e2 => e (hx.2 e2)
   have b1 : (C x == a) = false:=by simpa using e
   have b2 : (C2 x == a2) = false:=by simpa using e2
   rw [b1,b2,h1]
   refine ⟨rfl,?_⟩
   constructor
   ·rintro (h | h)
    ·exact absurd h.symm e
    ·exact Or.inr h
   ·rintro (h | h)
    ·exact absurd h.symm e2
    ·exact Or.inr h
section
variable {t : FstD} {s0 : Nat} {C : List Int -> Nat} {κ : Nat -> List Int}
theorem DocTab.step (h : DocTab t s0 C κ) {fw : List (List Int)} {rs : List ArcD} {u : List Int} {i j : Nat} {b b' : Int} (hi : i < 9) (ha : Alive t s0 (((i + 1 : Nat) : Int) :: u)) (hb : MinP (ToW t s0 u) b) (hb' : MinP (ToW t s0 (((i + 1 : Nat) : Int) :: u)) b') :
  numStep (κ (C u)) j (fw.map C,rs) i = (if C (((i + 1 : Nat) : Int) :: u) ∈ fw.map C then (fw.map C,rs ++ [⟨(j : Int),((i + 1 : Nat) : Int),((i + 1 : Nat) : Int),((fw.map C).idxOf (C (((i + 1 : Nat) : Int) :: u)) : Int),b' - (if u = [] then 0 else b)⟩]) else ((fw ++ [((i + 1 : Nat) : Int) :: u]).map C,rs ++ [⟨(j : Int),((i + 1 : Nat) : Int),((i + 1 : Nat) : Int),(fw.length : Int),b' - (if u = [] then 0 else b)⟩])):=by
 obtain ⟨h1,h2⟩:=h.yes u i b b' hi ha hb hb'
 unfold numStep
 rw [if_neg (by rw [h1]; omega),h2]
 dsimp only
 rw [h1,Int.toNat_natCast]
 by_cases e : C (((i + 1 : Nat) : Int) :: u) ∈ fw.map C
 ·rw [if_pos e,if_pos e]
 ·rw [if_neg e,if_neg e,List.map_append,List.map_cons,List.map_nil]
  have : (fw.map C ++ [C (((i + 1 : Nat) : Int) :: u)]).idxOf (C (((i + 1 : Nat) : Int) :: u)) = fw.length:=by
   rw [List.idxOf_append,if_neg e,List.length_map]
   simp
  rw [this]
theorem DocTab.skip (h : DocTab t s0 C κ) {S : List Nat × List ArcD} {u : List Int} {i j : Nat} (hi : i < 9) (hu : Alive t s0 u) (ha : ¬ Alive t s0 (((i + 1 : Nat) : Int) :: u)) : numStep (κ (C u)) j S i = S:=by
 unfold numStep
 rw [if_pos (h.no u i hi hu ha)]
end
section
variable {t t2 : FstD} {N N2 s0 s02 : Nat} {C C2 : List Int -> Nat} {κ κ2 : Nat -> List Int}
theorem EndSame.alike (hs : EndSame t s0 t2 s02) (ht : WideA t N) (ht2 : WideA t2 N2) {u u' : List Int} {b b' : Int} : AlikeP t s0 u t s0 u' b b' ↔ AlikeP t2 s02 u t2 s02 u' b b':=by
 constructor
 ·intro hA s p q hp hq
  obtain ⟨p',hp'⟩:=end_exists ht s0 (s ++ u)
  obtain ⟨q',hq'⟩:=end_exists ht s0 (s ++ u')
  have e1:=hs _ _ _ hp' hp
  have e2:=hs _ _ _ hq' hq
  have:=hA s p' q' hp' hq'
  rw [e1,e2] at this
  exact this
 ·intro hA s p q hp hq
  obtain ⟨p',hp'⟩:=end_exists ht2 s02 (s ++ u)
  obtain ⟨q',hq'⟩:=end_exists ht2 s02 (s ++ u')
  have e1:=hs _ _ _ hp hp'
  have e2:=hs _ _ _ hq hq'
  have:=hA s p' q' hp' hq'
  rw [<- e1,<- e2] at this
  exact this
theorem EndSame.alive_all (hs : EndSame t s0 t2 s02) (ht : WideA t N) (ht2 : WideA t2 N2) (hl : LiveW t s0) {u : List Int} (ha : Alive t s0 u) : Alive t2 s02 u:=by
 cases u with
 | nil => exact ⟨s02,0,rfl,rfl⟩
 | cons c u => exact hs.alive ht ht2 hl ha
structure Both (t : FstD) (s0 : Nat) (C C2 : List Int -> Nat) (S S2 : List Nat × List ArcD) (fw : List (List Int)) : Prop where
 alive : ∀ u ∈ fw,Alive t s0 u
 m : S.1 = fw.map C
 m2 : S2.1 = fw.map C2
 r : S.2 = S2.2
theorem both_step (h : DocTab t s0 C κ) (h2 : DocTab t2 s02 C2 κ2) (hs : EndSame t s0 t2 s02) (ht : WideA t N) (ht2 : WideA t2 N2) (hl : LiveW t s0) (hl2 : LiveW t2 s02) {S S2 : List Nat × List ArcD} {fw : List (List Int)} (hB : Both t s0 C C2 S S2 fw) {u : List Int} (hu : Alive t s0 u) {i : Nat} (hi : i < 9) (j : Nat) :
  ∃ l,Both t s0 C C2 (numStep (κ (C u)) j S i) (numStep (κ2 (C2 u)) j S2 i) (fw ++ l):=by
 obtain ⟨M,R⟩:=S
 obtain ⟨M2,R2⟩:=S2
 have e1 : M = fw.map C:=hB.m
 have e2 : M2 = fw.map C2:=hB.m2
 have e3 : R = R2:=hB.r
 subst e1 e2 e3
 have hu2:=hs.alive_all ht ht2 hl hu
 by_cases ha : Alive t s0 (((i + 1 : Nat) : Int) :: u)
 ·have ha2:=hs.alive ht ht2 hl ha
  obtain ⟨b,hb⟩:=tow_exists ht s0 u
  obtain ⟨b',hb'⟩:=tow_exists ht s0 (((i + 1 : Nat) : Int) :: u)
  have hb2:=hs.to ht ht2 hb
  have hb2':=hs.to ht ht2 hb'
  rw [h.step hi ha hb hb',h2.step hi ha2 hb2 hb2']
  obtain ⟨k1,k2⟩:=idx_map (C:=C) (C2:=C2) (a:=C (((i + 1 : Nat) : Int) :: u)) (a2:=C2 (((i + 1 : Nat) : Int) :: u)) fw fun w hw => by
   obtain ⟨d,hd⟩:=tow_exists ht s0 w
   have haw:=hB.alive w hw
   rw [<- h.alike w _ d b' haw ha hd hb',<- h2.alike w _ d b' (hs.alive_all ht ht2 hl haw) ha2 (hs.to ht ht2 hd) hb2']
   exact hs.alike ht ht2
  by_cases e : C (((i + 1 : Nat) : Int) :: u) ∈ fw.map C
  ·rw [if_pos e,if_pos (k2.1 e),k1]
   exact ⟨[],by rw [List.append_nil]; exact ⟨hB.alive,rfl,rfl,rfl⟩⟩
  ·rw [if_neg e,if_neg (fun h => e (k2.2 h))]
   refine ⟨[((i + 1 : Nat) : Int) :: u],fun w hw => ?_,rfl,rfl,rfl⟩
   rcases List.mem_append.1 hw with hw | hw
   ·exact hB.alive w hw
   ·rw [List.mem_singleton.1 hw]; exact ha
 ·have ha2 : ¬ Alive t2 s02 (((i + 1 : Nat) : Int) :: u):=fun h => ha (hs.symm.alive ht2 ht hl2 h)
  rw [h.skip hi hu ha,h2.skip hi hu2 ha2]
  exact ⟨[],by rw [List.append_nil]; exact hB⟩
theorem both_lets (h : DocTab t s0 C κ) (h2 : DocTab t2 s02 C2 κ2) (hs : EndSame t s0 t2 s02) (ht : WideA t N) (ht2 : WideA t2 N2) (hl : LiveW t s0) (hl2 : LiveW t2 s02) {S S2 : List Nat × List ArcD} {fw : List (List Int)} (hB : Both t s0 C C2 S S2 fw) {u : List Int} (hu : Alive t s0 u) (j : Nat) :
  ∀ i,i <= 9 -> ∃ l,Both t s0 C C2 (numLets (κ (C u)) j S i) (numLets (κ2 (C2 u)) j S2 i) (fw ++ l)
 | 0,_ => ⟨[],by rw [List.append_nil]; exact hB⟩
 | i + 1,hi => by
  obtain ⟨l,hl1⟩:=both_lets h h2 hs ht ht2 hl hl2 hB hu j i (by omega)
  obtain ⟨l2,hl3⟩:=both_step h h2 hs ht ht2 hl hl2 hl1 hu (by omega : i < 9) j
  exact ⟨l ++ l2,by rw [<- List.append_assoc]; exact hl3⟩
theorem both_num (h : DocTab t s0 C κ) (h2 : DocTab t2 s02 C2 κ2) (hs : EndSame t s0 t2 s02) (ht : WideA t N) (ht2 : WideA t2 N2) (hl : LiveW t s0) (hl2 : LiveW t2 s02) :
  ∀ j,(∀ i,i < j -> i < (numN κ (C []) i).1.length) -> ∃ fw,Both t s0 C C2 ((numN κ (C []) j).1,(numN κ (C []) j).2.2) ((numN κ2 (C2 []) j).1,(numN κ2 (C2 []) j).2.2) fw /\ (numN κ (C []) j).2.1 = (numN κ2 (C2 []) j).2.1
 | 0,_ => ⟨[[]],⟨fun u hu => by
   rw [List.mem_singleton.1 hu]
   exact ⟨s0,0,rfl,rfl⟩,rfl,rfl,rfl⟩,rfl⟩
 | j + 1,hj => by
  obtain ⟨fw,hB,hf⟩:=both_num h h2 hs ht ht2 hl hl2 j fun i hi => hj i (by omega)
  have hlt:=hj j (by omega)
  have e1 : (numN κ (C []) j).1 = fw.map C:=hB.m
  have e2 : (numN κ2 (C2 []) j).1 = fw.map C2:=hB.m2
  have hfl : j < fw.length:=by rw [e1,List.length_map] at hlt; exact hlt
  have g1 : (numN κ (C []) j).1.getD j 0 = C fw[j]:=by
   rw [e1,List.getD_eq_getElem?_getD,List.getElem?_map,List.getElem?_eq_getElem hfl]; rfl
  have g2 : (numN κ2 (C2 []) j).1.getD j 0 = C2 fw[j]:=by
   rw [e2,List.getD_eq_getElem?_getD,List.getElem?_map,List.getElem?_eq_getElem hfl]; rfl
  have hu:=hB.alive _ (List.getElem_mem hfl)
  obtain ⟨l,hB2⟩:=both_lets h h2 hs ht ht2 hl hl2 hB hu j 9 (Nat.le_refl _)
  refine ⟨fw ++ l,?_,?_⟩
  ·show Both t s0 C C2 (numLets (κ ((numN κ (C []) j).1.getD j 0)) j ((numN κ (C []) j).1,(numN κ (C []) j).2.2) 9) (numLets (κ2 ((numN κ2 (C2 []) j).1.getD j 0)) j ((numN κ2 (C2 []) j).1,(numN κ2 (C2 []) j).2.2) 9) _
   rw [g1,g2]
   exact hB2
  ·show (numN κ (C []) j).2.1 ++ [gI (κ ((numN κ (C []) j).1.getD j 0)) 0] = (numN κ2 (C2 []) j).2.1 ++ [gI (κ2 ((numN κ2 (C2 []) j).1.getD j 0)) 0]
   rw [hf,g1,g2]
   obtain ⟨e,he⟩:=end_exists ht s0 fw[j]
   obtain ⟨e',he'⟩:=end_exists ht2 s02 fw[j]
   obtain ⟨b,hb⟩:=tow_exists ht s0 fw[j]
   have:=hs _ _ _ he he'
   subst this
   rw [h.fin _ e b hu he hb,h2.fin _ e b (hs.alive_all ht ht2 hl hu) he' (hs.to ht ht2 hb)]
theorem least_one (h : DocTab t s0 C κ) (h2 : DocTab t2 s02 C2 κ2) (hs : EndSame t s0 t2 s02) (ht : WideA t N) (ht2 : WideA t2 N2) (hl : LiveW t s0) (hl2 : LiveW t2 s02) {n n2 : Nat} (hr : RunN κ (C []) n) (hr2 : RunN κ2 (C2 []) n2) : n = n2 /\ (numN κ (C []) n).2 = (numN κ2 (C2 []) n2).2:=by
 have key : ∀ {t t2 : FstD} {N N2 s0 s02 : Nat} {C C2 : List Int -> Nat} {κ κ2 : Nat -> List Int},DocTab t s0 C κ -> DocTab t2 s02 C2 κ2 -> EndSame t s0 t2 s02 -> WideA t N -> WideA t2 N2 -> LiveW t s0 -> LiveW t2 s02 -> ∀ {n n2 : Nat},RunN κ (C []) n -> RunN κ2 (C2 []) n2 -> n <= n2 -> n2 <= n /\ (numN κ (C []) n).2 = (numN κ2 (C2 []) n).2:=by
  intro t t2 N N2 s0 s02 C C2 κ κ2 h h2 hs ht ht2 hl hl2 n n2 hr hr2 hle
  obtain ⟨fw,hB,hf⟩:=both_num h h2 hs ht ht2 hl hl2 n hr.all
  have e1 : (numN κ (C []) n).1 = fw.map C:=hB.m
  have e2 : (numN κ2 (C2 []) n).1 = fw.map C2:=hB.m2
  have e3:=hr.done
  rw [e1,List.length_map] at e3
  refine ⟨?_,Prod.ext hf hB.r⟩
  by_cases e : n < n2
  ·have:=hr2.all n e
   rw [e2,List.length_map] at this
   omega
  ·omega
 rcases Nat.le_total n n2 with hle | hle
 ·obtain ⟨h3,h4⟩:=key h h2 hs ht ht2 hl hl2 hr hr2 hle
  obtain rfl : n = n2:=by omega
  exact ⟨rfl,h4⟩
 ·obtain ⟨h3,h4⟩:=key h2 h hs.symm ht2 ht hl2 hl hr2 hr hle
  obtain rfl : n = n2:=by omega
  exact ⟨rfl,h4.symm⟩
end
end Go.Proofs.Yteehgcbjmdideab
/- A region that draws its order: a load for which the fatal ones wait by way of another one; two that may come up. -/
namespace Go.Proofs.Yteehgcbjmdideab
open Go
section
variable {P : Program} {ops : Array Oper} {Q : Exit -> Act -> World -> Prop} {md : Region.Mode} {S : World -> Prop} {fatal : List Nat}
theorem ready_listed {listed : Array Bool} {m j : Nat} {oj : Oper} (hm : listed.getD m true = false) (hj : j ∈ Region.ready md ops listed) (hoj : ops[j]? = some oj) :
  ∀ e ∈ oj.after,Region.binds md e = true -> e.on ≠ m:=by
 obtain ⟨_,o,ho,hall⟩:=mem_ready.1 hj
 rw [hoj] at ho
 injection ho with ho
 subst ho
 rintro e he hb rfl
 have hl:=hall e he hb
 by_cases hs : e.on < listed.size
 ·simp only [Array.getD_eq_getD_getElem?,Array.getElem?_eq_getElem hs,Option.getD_some] at hm hl
  exact Bool.noConfusion (hm.symm.trans hl)
 ·simp only [Array.getD_eq_getD_getElem?,Array.getElem?_eq_none (Nat.le_of_not_lt hs),Option.getD_none] at hl
  cases hl
section
variable {i m : Nat} {oi : Oper} {v : Value}
theorem CanF.held2 (hi : ops[i]? = some oi) (hsel : ∀ (j : Nat) (o : Oper) cs b,ops[j]? = some o -> o.op ≠ .select cs b) (hif : i ∉ fatal) (hmi : waits md ops m i = true)
  (hk : ∀ k ∈ fatal,waits md ops k i = true \/ waits md ops k m = true) (hQ : ∀ c a w,Q (.panic c) (a.put oi.dst v) w -> Q (.panic c) a w) (fuel : Nat) :
  ∀ {listed : Array Bool} {a : Act} {w : World},listed.getD m true = false -> unl fatal listed -> CanF P md ops Q S S fatal i oi v fuel listed a w -> wpAnyF P md ops Q S fatal (fuel + 1) listed a w:=by
 induction fuel with
 | zero =>
  intro listed a w hl hu h
  refine ⟨fun hnil => absurd h.up (by simp [hnil]),fun j hj => ?_⟩
  rcases Nat.decEq j i with hne | rfl
  ·exact absurd (ready_mono hj hne) (by simp [h.taken.1])
  ·exact h.val.wpOp hi h.known ⟨fun _ => h.known,h.taken⟩
 | succ fuel ih =>
  intro listed a w hl hu h
  refine ⟨fun hnil => absurd h.up (by simp [hnil]),fun j hj => ?_⟩
  rcases Nat.decEq j i with hne | rfl
  ·obtain ⟨_,oj,hoj,_⟩:=mem_ready.1 hj
   have hjm : j ≠ m:=by
    rintro rfl
    obtain ⟨e,he,hb,hon⟩:=(waits_spec hmi).2 oj hoj
    exact ready_not_on h.up hj hoj e he hb hon
   have hjf : j ∉ fatal:=by
    intro hm
    rcases hk j hm with hw | hw
    ·obtain ⟨e,he,hb,hon⟩:=(waits_spec hw).2 oj hoj
     exact ready_not_on h.up hj hoj e he hb hon
    ·obtain ⟨e,he,hb,hon⟩:=(waits_spec hw).2 oj hoj
     exact ready_listed hl hj hoj e he hb hon
   have hu' : unl fatal (listed.setIfInBounds j true):=(unl_set hjf).2 hu
   have hl' : (listed.setIfInBounds j true).getD m true = false:=by
    rw [getD_set_ne true hjm]
    exact hl
   exact wpOp_mono (fun _ _ hc => ⟨hc.1,ih hl' hu' hc.2⟩) (h.other hi hsel hif hQ (fun _ hS => hS hu') hj hne)
  ·exact h.val.wpOp hi h.known ⟨fun _ => h.known,h.taken⟩
end
theorem wpAnyF_take2 {i : Nat} (m : Nat) {oi : Oper} {v : Value} {fuel : Nat} {listed : Array Bool} {a : Act} {w : World} (hi : ops[i]? = some oi)
  (hs : Region.noSelect ops = true) (hf : Region.free md ops listed i = true) (hr : (Region.ready md ops listed).contains i = true) (hk : (!fatal.contains i && unlB fatal listed && waits md ops m i && (listed.getD m true == false) && fatal.all fun k => waits md ops k i || waits md ops k m) = true)
  (hQ : ∀ c a w,Q (.panic c) (a.put oi.dst v) w -> Q (.panic c) a w) (hy : YieldsIf P ops S oi v a) (hS : S w)
  (h : wpAnyF P md ops Q S fatal fuel (listed.setIfInBounds i true) (a.put oi.dst v) w) : wpAnyF P md ops Q S fatal (fuel + 1) listed a w:=by
 rw [Bool.and_eq_true,Bool.and_eq_true,Bool.and_eq_true,Bool.and_eq_true] at hk
 exact CanF.held2 hi (Region.noSelect_spec hs) (by simpa using hk.1.1.1.1) hk.1.1.2 (fun k hm => by
  have:=List.all_eq_true.1 hk.2 k hm
  rw [Bool.or_eq_true] at this
  exact this) hQ fuel (by simpa using hk.1.2) (unlB_spec hk.1.1.1.2) ⟨by simpa using hr,Region.free_spec hi hf,hy,hS,fun _ => hS,h⟩
theorem wpAnyF_pair {i j : Nat} {oi oj : Oper} {fuel : Nat} {listed : Array Bool} {a : Act} {w : World} (hoi : ops[i]? = some oi) (hoj : ops[j]? = some oj) (hr : Region.ready md ops listed = [i,j])
  (h1 : ∀ K' : Act -> World -> Prop,Shut (∀ a w,((unl fatal (listed.setIfInBounds i true) -> S w) /\ wpAnyF P md ops Q S fatal fuel (listed.setIfInBounds i true) a w) -> K' a w) -> if Region.wanted oi (yielded ops a.tmps) = true then Oper.wp P oi a w K' Q else K' (a.put oi.dst undef) w)
  (h2 : ∀ K' : Act -> World -> Prop,Shut (∀ a w,((unl fatal (listed.setIfInBounds j true) -> S w) /\ wpAnyF P md ops Q S fatal fuel (listed.setIfInBounds j true) a w) -> K' a w) -> if Region.wanted oj (yielded ops a.tmps) = true then Oper.wp P oj a w K' Q else K' (a.put oj.dst undef) w) : wpAnyF P md ops Q S fatal (fuel + 1) listed a w:=by
 refine ⟨fun h0 => (by rw [hr] at h0; cases h0),fun k hk => ?_⟩
 rw [hr] at hk
 rcases List.mem_cons.1 hk with rfl | hk
 ·exact wpOp_step hoi (fun K' hK => h1 K' (fun a w hS => hK a w hS))
 ·have : k = j:=by simpa using hk
  subst this
  exact wpOp_step hoj (fun K' hK => h2 K' (fun a w hS => hK a w hS))
end
end Go.Proofs.Yteehgcbjmdideab
