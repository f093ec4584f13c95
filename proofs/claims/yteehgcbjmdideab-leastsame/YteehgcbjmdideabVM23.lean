/- The four small functions that 'stay' of package fst hands to 'reach'. -/
import Derived.Test.YteehgcbjmdideabVM22
set_option maxRecDepth 100000
namespace Go.Proofs.Yteehgcbjmdideab.Sc
open Go.RowKit Go.Maps Go.ChangeShapes
attribute [local go_sem ↓] Go.wp_at_zero Go.wp_at_succ
theorem first_ahead (fb : Nat) (st sta : Int) (fin arcs : Value) (x : Nat) (w : World) (h : CellsF w fb st sta fin arcs) :
  Calls Try.prog 87 #[.int .i64 (x : Int),.pointer (some ⟨fb,0,none⟩)] w fun e w' => e = .returned (.bool (decide ((x : Int) = sta))) /\ w = w':=by
 obtain ⟨f0,f1,f2,f3⟩:=h
 go_enter Try.func87,Try.ntmps87
 go_wp2
 go_ret
 exact ⟨ret_bool (by rw [Bool.eq_iff_iff]; simp),rfl⟩
theorem first_back (fb b off n cap : Nat) (st sta : Int) (xs : List Int) (arcs : Value) (x : Nat) (w : World) (h : CellsF w fb st sta (.slice (some ⟨b,off,none⟩) n cap) arcs) (hx : IntsAt w b off n xs) (hlt : x < n) :
  Calls Try.prog 89 #[.int .i64 (x : Int),.pointer (some ⟨fb,0,none⟩)] w fun e w' => e = .returned (.bool (!decide (xs.getD x 0 = -1))) /\ w = w':=by
 obtain ⟨f0,f1,f2,f3⟩:=h
 have hc:=hx.cell x hlt
 have hi : (x : Int) < n:=by omega
 go_enter Try.func89,Try.ntmps89
 go_wp2
 go_ret
 exact ⟨ret_bool (by rw [Bool.eq_iff_iff]; simp),rfl⟩
theorem along_ahead (a : ArcD) (w : World) :
  Calls Try.prog 88 #[.agg #[.int .i64 a.src,.int .i64 a.inp,.int .i64 a.out,.int .i64 a.dst,.int .i64 a.wt]] w fun e w' => e = .returned (.tuple #[.int .i64 a.src,.int .i64 a.dst]) /\ Below w.heap.size w w':=by
 go_enter Try.func88,Try.ntmps88
 go_wp2
 go_quiet (fail)
 go_wp2
 go_ret2
 exact ⟨rfl,bel_drewN (bel_up (bel_self _) _) _⟩
theorem along_back (a : ArcD) (w : World) :
  Calls Try.prog 90 #[.agg #[.int .i64 a.src,.int .i64 a.inp,.int .i64 a.out,.int .i64 a.dst,.int .i64 a.wt]] w fun e w' => e = .returned (.tuple #[.int .i64 a.dst,.int .i64 a.src]) /\ Below w.heap.size w w':=by
 go_enter Try.func90,Try.ntmps90
 go_wp2
 go_quiet (fail)
 go_wp2
 go_ret2
 exact ⟨rfl,bel_drewN (bel_up (bel_self _) _) _⟩
theorem along_aheadN (a : ArcD) (s t : Nat) (w : World) (hs : a.src = s) (ht : a.dst = t) :
  Calls Try.prog 88 #[.agg #[.int .i64 a.src,.int .i64 a.inp,.int .i64 a.out,.int .i64 a.dst,.int .i64 a.wt]] w fun e w' => e = .returned (.tuple #[.int .i64 (s : Int),.int .i64 (t : Int)]) /\ Below w.heap.size w w' :=
 (along_ahead a w).mono fun _ _ ⟨h1,h2⟩ => ⟨by rw [h1,hs,ht],h2⟩
theorem along_backN (a : ArcD) (s t : Nat) (w : World) (hs : a.dst = s) (ht : a.src = t) :
  Calls Try.prog 90 #[.agg #[.int .i64 a.src,.int .i64 a.inp,.int .i64 a.out,.int .i64 a.dst,.int .i64 a.wt]] w fun e w' => e = .returned (.tuple #[.int .i64 (s : Int),.int .i64 (t : Int)]) /\ Below w.heap.size w w' :=
 (along_back a w).mono fun _ _ ⟨h1,h2⟩ => ⟨by rw [h1,hs,ht],h2⟩
/-! the lists of what comes next -/
def itemsD : DataW Unit -> List (DataW Unit)
 | .slice es _ => es
 | _ => []
def NextsAt (D : DataW Unit) (ps : List (Nat × Nat)) : Prop:=∀ x : Nat,itemsD (D.atKey (.int .i64 (x : Int)) .nil) = lits .i64 (natI (nexts ps x))
theorem items_row {w : World} {base e : Nat} {v : Value} {zs : List Int} (h : w.ownsInts base e .i64 v zs) : itemsD (rowDatum (H:=Unit) .i64 v zs) = lits .i64 zs:=by
 rcases h.datum (H:=Unit) with ⟨h1,h2⟩ | h1
 ·rw [h1,h2]; rfl
 ·rw [h1]; rfl
theorem lits_inj {a b : List Int} (h : lits (H:=Unit) .i64 a = lits .i64 b) : a = b :=
 (List.map_inj_right (fun x y hxy => by cases hxy; rfl)).1 h
theorem NextsAt.at {D : DataW Unit} {ps : List (Nat × Nat)} {w : World} {base e : Nat} {v : Value} {zs : List Int} {x : Nat} (hN : NextsAt D ps) (hat : D.atKey (.int .i64 (x : Int)) .nil = rowDatum .i64 v zs) (hoi : w.ownsInts base e .i64 v zs) : zs = natI (nexts ps x):=by
 have:=hN x
 rw [hat,items_row hoi] at this
 exact lits_inj this
theorem nexts_snoc (ps : List (Nat × Nat)) (s t x : Nat) : nexts (ps ++ [(s,t)]) x = nexts ps x ++ if s = x then [t] else []:=by
 unfold nexts
 rw [List.filter_append,List.map_append]
 congr 1
 by_cases e : s = x
 ·simp [e]
 ·simp [e]
theorem NextsAt.put {D : DataW Unit} {ps : List (Nat × Nat)} {w : World} {base e : Nat} {v : Value} {s t : Nat} (hN : NextsAt D ps) (hD : IsMap D) (hoi : w.ownsInts base e .i64 v (natI (nexts ps s) ++ [(t : Int)])) :
  NextsAt (D.put (.int .i64 (s : Int)) (rowDatum .i64 v (natI (nexts ps s) ++ [(t : Int)]))) (ps ++ [(s,t)]):=by
 intro x
 rw [nexts_snoc]
 by_cases e : s = x
 ·subst e
  rw [atKey_put_same hD (isKeyI _),items_row hoi,if_pos rfl,<- natI_snoc]
 ·rw [atKey_put_other (by intro h; apply e; have:=(Lit.int.inj h).2; omega),hN x,if_neg e,List.append_nil]
theorem nextsAt_made : NextsAt (.map []) []:=fun _ => rfl
theorem groups_below {w w' : World} {base b n : Nat} {D : DataW Unit} (h : w.ownsGroups Try.prog 3 base 3 .i64 b n D) (hb : Below w.heap.size w w') : w'.ownsGroups Try.prog 3 base 3 .i64 b n D :=
 h.kept (bel_grown hb) (by simp) (fun _ _ _ x _ => by cases x.val.ownBlock <;> simp)
theorem groups_isMap {w : World} {base b n : Nat} {D : DataW Unit} (h : w.ownsGroups Try.prog 3 base 3 .i64 b n D) : IsMap D:=by
 obtain ⟨es,c,_,_,_,hD,_⟩:=h
 exact ⟨_,hD⟩
/-! the search -/
theorem newNo_put (M : Nat -> Bool) (x : Nat) (hM : M x = false) (k : Nat) : newNo (fun y => M y || decide (y = x)) k = newNo M k + if x < k then 1 else 0:=by
 induction k with
 | zero => simp [newNo]
 | succ k ih =>
  rw [newNo_succ,newNo_succ,ih]
  by_cases e : k = x
  ·subst e; simp [hM]
  ·have e2 : (M k || decide (k = x)) = M k:=by simp [e]
   rw [e2]
   by_cases h : x < k
   ·rw [if_pos h,if_pos (show x < k + 1 by omega)]; omega
   ·rw [if_neg h,if_neg (show ¬ x < k + 1 by omega)]; omega
theorem meetM_self (M : Nat -> Bool) (x : Nat) : meetM M x x = true:=by
 unfold meetM
 cases h : M x <;> simp [h]
theorem meetM_mono {M : Nat -> Bool} {x y : Nat} (h : M y = true) : meetM M x y = true:=by
 unfold meetM
 cases hx : M x <;> simp [h]
theorem meetM_inv {M : Nat -> Bool} {x y : Nat} (h : meetM M x y = true) : M y = true \/ y = x:=by
 unfold meetM at h
 cases hx : M x
 ·rw [hx] at h; simpa using h
 ·rw [hx] at h; exact Or.inl (by simpa using h)
theorem meetZ_mono {M : Nat -> Bool} {x y : Nat} {zs : List Nat} (h : y ∈ zs) : y ∈ meetZ M x zs:=by
 unfold meetZ
 cases hx : M x <;> simp [h]
theorem meetZ_inv {M : Nat -> Bool} {x y : Nat} {zs : List Nat} (h : y ∈ meetZ M x zs) : y ∈ zs \/ y = x:=by
 unfold meetZ at h
 cases hx : M x
 ·rw [hx] at h; simpa using h
 ·rw [hx] at h; exact Or.inl (by simpa using h)
theorem meetZ_new {M : Nat -> Bool} {x : Nat} {zs : List Nat} (h : M x = false) : x ∈ meetZ M x zs:=by
 unfold meetZ; simp [h]
structure Srch (N : Nat) (ps : List (Nat × Nat)) (S : Nat -> Bool) (k : Nat) (on : Nat -> Prop) (n : Nat) (M : Nat -> Bool) (zs : List Nat) : Prop where
 num : n = newNo M N
 zlen : zs.length <= n
 lt : ∀ x,M x = true -> x < N
 sound : ∀ x,M x = true -> ReachP N ps S x
 opn : ∀ x ∈ zs,M x = true
 all : ∀ x,M x = true -> x ∈ zs \/ on x \/ ∀ t,(x,t) ∈ ps -> M t = true
 first : ∀ x,x < k -> x < N -> S x = true -> M x = true
theorem newNo_none (N : Nat) : newNo (fun _ => false) N = 0:=by
 induction N with
 | zero => rfl
 | succ N ih => rw [newNo_succ,ih]; rfl
theorem Srch.start (N : Nat) (ps : List (Nat × Nat)) (S : Nat -> Bool) : Srch N ps S 0 (fun _ => False) 0 (fun _ => false) [] :=
 ⟨(newNo_none N).symm,by simp,fun _ h => by simp at h,fun _ h => by simp at h,fun _ h => by simp at h,fun _ h => by simp at h,fun _ h => by omega⟩
theorem Srch.le {N : Nat} {ps : List (Nat × Nat)} {S : Nat -> Bool} {k : Nat} {on : Nat -> Prop} {n : Nat} {M : Nat -> Bool} {zs : List Nat} (h : Srch N ps S k on n M zs) : n <= N:=by rw [h.num]; exact newNo_le _ _
theorem Srch.meet {N : Nat} {ps : List (Nat × Nat)} {S : Nat -> Bool} {k : Nat} {on : Nat -> Prop} {n : Nat} {M : Nat -> Bool} {zs : List Nat} (h : Srch N ps S k on n M zs) (x : Nat) (hx : x < N) (hr : ReachP N ps S x) :
  Srch N ps S k on (meetN M x n) (meetM M x) (meetZ M x zs) /\ 2 * (N - meetN M x n) + (meetZ M x zs).length <= 2 * (N - n) + zs.length:=by
 have hle:=h.le
 refine ⟨⟨?_,?_,?_,?_,?_,?_,?_⟩,?_⟩
 ·unfold meetN meetM
  cases hM : M x
  ·simp only [Bool.false_eq_true,if_false]
   rw [newNo_put M x hM,if_pos hx,h.num]
  ·simpa using h.num
 ·have:=h.zlen
  unfold meetN meetZ
  cases hM : M x <;> simp <;> omega
 ·intro y hy
  rcases meetM_inv hy with h1 | h1
  ·exact h.lt y h1
  ·omega
 ·intro y hy
  rcases meetM_inv hy with h1 | h1
  ·exact h.sound y h1
  ·subst h1; exact hr
 ·intro y hy
  rcases meetZ_inv hy with h1 | h1
  ·exact meetM_mono (h.opn y h1)
  ·subst h1; exact meetM_self _ _
 ·intro y hy
  cases hMy : M y
  ·rcases meetM_inv hy with h1 | h1
   ·rw [hMy] at h1; cases h1
   ·subst h1; exact Or.inl (meetZ_new hMy)
  ·rcases h.all y hMy with h1 | h1 | h1
   ·exact Or.inl (meetZ_mono h1)
   ·exact Or.inr (Or.inl h1)
   ·exact Or.inr (Or.inr fun t ht => meetM_mono (h1 t ht))
 ·intro y hy hyN hS
  exact meetM_mono (h.first y hy hyN hS)
 ·have hlt : M x = false -> n + 1 <= N:=fun hM => by
   have h1:=newNo_put M x hM N
   rw [if_pos hx] at h1
   have:=newNo_le (fun y => M y || decide (y = x)) N
   rw [h.num]; omega
  unfold meetN meetZ
  cases hM : M x
  ·have:=hlt hM; simp; omega
  ·simp
theorem Srch.hit {N : Nat} {ps : List (Nat × Nat)} {S : Nat -> Bool} {k : Nat} {n : Nat} {M : Nat -> Bool} {zs : List Nat} (h : Srch N ps S k (fun _ => False) n M zs) (hk : k < N) (hS : S k = true) :
  Srch N ps S (k + 1) (fun _ => False) (meetN M k n) (meetM M k) (meetZ M k zs):=by
 have h1:=(h.meet k hk (Reach.first ⟨hk,hS⟩)).1
 refine ⟨h1.num,h1.zlen,h1.lt,h1.sound,h1.opn,h1.all,fun x hx hxN hSx => ?_⟩
 by_cases e : x = k
 ·subst e; exact meetM_self _ _
 ·exact h1.first x (by omega) hxN hSx
theorem Srch.miss {N : Nat} {ps : List (Nat × Nat)} {S : Nat -> Bool} {k : Nat} {n : Nat} {M : Nat -> Bool} {zs : List Nat} (h : Srch N ps S k (fun _ => False) n M zs) (hS : S k = false) :
  Srch N ps S (k + 1) (fun _ => False) n M zs :=
 ⟨h.num,h.zlen,h.lt,h.sound,h.opn,h.all,fun x hx hxN hSx => by
  by_cases e : x = k
  ·subst e; rw [hS] at hSx; cases hSx
  ·exact h.first x (by omega) hxN hSx⟩
theorem Srch.pop {N : Nat} {ps : List (Nat × Nat)} {S : Nat → Bool} {k : Nat} {n : Nat} {M : Nat → Bool} {zs : List Nat} {x : Nat} (h : Srch N ps S k (fun _ => False) n M (zs ++ [x])) :
    Srch N ps S k (fun y => y = x) n M zs ∧ M x = true :=
  ⟨⟨h.num, by have := h.zlen; simp at this; omega, h.lt, h.sound, fun y hy => h.opn y (by simp [hy]), fun y hy => by
    rcases h.all y hy with h1 | h1 | h1
    · rcases List.mem_append.1 h1 with h1 | h1
      · exact Or.inl h1
      · exact Or.inr (Or.inl (by simpa using h1))
    · exact h1.elim
    · exact Or.inr (Or.inr h1), h.first⟩, h.opn x (by simp)⟩
theorem Srch.did {N : Nat} {ps : List (Nat × Nat)} {S : Nat -> Bool} {k : Nat} {n : Nat} {M : Nat -> Bool} {zs : List Nat} {x : Nat} (h : Srch N ps S k (fun y => y = x) n M zs) (hd : ∀ t ∈ nexts ps x,M t = true) :
  Srch N ps S k (fun _ => False) n M zs :=
 ⟨h.num,h.zlen,h.lt,h.sound,h.opn,fun y hy => by
  rcases h.all y hy with h1 | h1 | h1
  ·exact Or.inl h1
  ·exact Or.inr (Or.inr fun t ht => hd t ((mem_nexts ps x t).2 (h1 ▸ ht)))
  ·exact Or.inr (Or.inr h1),h.first⟩
theorem Srch.done {N : Nat} {ps : List (Nat × Nat)} {S : Nat -> Bool} {n : Nat} {M : Nat -> Bool} (h : Srch N ps S N (fun _ => False) n M []) (x : Nat) : M x = true ↔ ReachP N ps S x :=
 search_done N ps S M h.sound (fun y hy hS => h.first y hy hy hS) (fun y t hy ht => by
  rcases h.all y hy with h1 | h1 | h1
  ·simp at h1
  ·exact h1.elim
  ·exact h1 t ht) x
theorem least_of {p : Nat -> Prop} (h : ∃ m,p m) : ∃ m,p m /\ ∀ k,p k -> m <= k:=by
 obtain ⟨m,hm⟩:=h
 induction m using Nat.strongRecOn with
 | _ m ih =>
  by_cases hx : ∃ k,k < m /\ p k
  ·obtain ⟨k,hk,hp⟩:=hx
   exact ih k hk hp
  ·exact ⟨m,hm,fun k hk => by
    by_cases hl : m <= k
    ·exact hl
    ·exact absurd ⟨k,by omega,hk⟩ hx⟩
theorem eps_min {p : Nat -> Prop} (h : ∃ m,p m) : p (Classical.epsilon fun m => p m /\ ∀ k,p k -> m <= k) /\ ∀ k,p k -> (Classical.epsilon fun m => p m /\ ∀ k,p k -> m <= k) <= k:=Classical.epsilon_spec (least_of h)
/-! the worlds of the search -/
theorem CellsF.keepB {w w' : World} {B H : Nat} {st sta : Int} {fin arcs : Value} (h : CellsF w H st sta fin arcs) (hb : Below B w w') (hH : H < B) : CellsF w' H st sta fin arcs :=
 ⟨(hb.cell (p:=⟨H,0,none⟩) hH).trans h.1,(hb.cell (p:=⟨H,1,none⟩) hH).trans h.2.1,(hb.cell (p:=⟨H,2,none⟩) hH).trans h.2.2.1,(hb.cell (p:=⟨H,3,none⟩) hH).trans h.2.2.2⟩
theorem new_frozen (w : World) (cs : Array Value) (t N k : Nat) (hN : w.heap.size = N) : (w.alloc (.cells cs t)).frozen? ⟨N,k,none⟩ = false:=by
 subst hN
 have h : (w.alloc (.cells cs t)).heap[w.heap.size]? = some (.cells cs t):=heap_alloc_new w _
 unfold World.frozen?
 simp only [h]
 simp
theorem addr_add (g j : Nat) : (⟨g,0,none⟩ : Addr).add j = ⟨g,j,none⟩:=by
 by_cases h : j = 0
 ·subst h; rfl
 ·simp [Addr.add,h]
theorem MS.start (w : World) : MS (((w.alloc (.map #[] 0)).alloc (.cells #[.map (some w.heap.size)] 104)).alloc (.cells #[.slice none 0 0] 22)) w.heap.size 0 (fun _ => false) (.slice none 0 0) []:=by
 refine ⟨?_,?_,World.ownsInts_nil _ _ _ _,?_,⟨.map [],?_,fun _ => rfl⟩,by simp⟩
 ·exact old_cell (new_cell _ _ _ _ 0 _ (by simp) rfl)
 ·exact new_cell _ _ _ _ 0 _ (by simp) rfl
 ·exact new_frozen _ _ _ _ 0 (by simp)
 ·exact (((World.ownsMap_made _ _ _ _).alloc _).alloc _)
theorem first_A (f : FstD) (N fb : Nat) (fin arcs : Value) (x : Nat) (v : Bool) (w : World) (h : CellsF w fb (N : Int) f.start fin arcs) (hv : firstA f x = v) :
  Calls Try.prog 87 #[.int .i64 (x : Int),.pointer (some ⟨fb,0,none⟩)] w fun e w' => e = .returned (.bool v) /\ w = w':=by
 subst hv; exact first_ahead fb _ _ _ _ x w h
theorem first_B (f : FstD) (N fb : Nat) (fin arcs : Value) (x : Nat) (v : Bool) (w : World) (h : CellsF w fb (N : Int) f.start fin arcs) (hf : ISlice w fin f.final) (hl : f.final.length = N) (hx : x < N) (hv : firstB f x = v) :
  Calls Try.prog 89 #[.int .i64 (x : Int),.pointer (some ⟨fb,0,none⟩)] w fun e w' => e = .returned (.bool v) /\ w = w':=by
 subst hv
 obtain ⟨a,n,c,rfl,hn,hm⟩:=hf.lenOf
 obtain ⟨b,off,rfl,hi⟩:=hf.some (by omega)
 exact first_back fb b off n c _ _ f.final arcs x w h hi (by omega)
def Open3 (N : Nat) (ps : List (Nat × Nat)) (S : Nat -> Bool) (w0 wx : World) (u : Nat) : Prop :=
 ∃ m M v zs,MS wx w0.heap.size m M v zs /\ Below w0.heap.size w0 wx /\ Srch N ps S N (fun _ => False) m M zs /\ u = 2 * (N - m) + zs.length
def Open4 (N : Nat) (ps : List (Nat × Nat)) (S : Nat -> Bool) (w0 wx : World) (x j u : Nat) : Prop :=
 ∃ m M v zs,MS wx w0.heap.size m M v zs /\ Below w0.heap.size w0 wx /\ Srch N ps S N (fun y => y = x) m M zs /\ (∀ t ∈ (nexts ps x).take j,M t = true) /\ M x = true /\ 2 * (N - m) + zs.length + 1 <= u
theorem next_row {w0 wl : World} {base : Nat} {v : Value} {l : List Nat} (hoi : wl.ownsInts base 3 .i64 v (natI l)) (hB : Below w0.heap.size w0 wl) (hsh : ∀ g,v.ownBlock = some g -> ¬ w0.heap.size <= g) :
  ∃ a c,v = .slice a l.length c /\ (0 < l.length -> ∃ g,a = some ⟨g,0,none⟩ /\ ∀ wy,Below w0.heap.size w0 wy -> ∀ (j t : Nat),l[j]? = some t -> wy.cell? ⟨g,j,none⟩ = some (.int .i64 (t : Int))):=by
 have hl:=natI_len l
 rcases Go.Joins.ownsRow_forms hoi.1 with ⟨h1,h2⟩ | ⟨g,c,h1⟩
 ·rw [hl] at h2
  exact ⟨none,0,by rw [h1,h2],fun h => by omega⟩
 ·rw [hl] at h1
  refine ⟨some ⟨g,0,none⟩,c,h1,fun _ => ⟨g,rfl,fun wy hy j t hj => ?_⟩⟩
  have hg : g < w0.heap.size:=by
   have:=hsh g (by rw [h1]; rfl)
   omega
  have hc:=hoi.1.cells (g:=g) (by rw [h1]; rfl) j (.int .i64 (t : Int)) (by simp [natI,hj])
  have hc' : wl.cell? ⟨g,j,none⟩ = some (.int .i64 (t : Int)):=by rw [addr_add] at hc; exact hc
  rw [hy.cell (p:=⟨g,j,none⟩) hg,<- hB.cell (p:=⟨g,j,none⟩) hg]
  exact hc'
theorem shuns_all {w0 wl : World} {base b n : Nat} {D : DataW Unit} (h : w0.ownsGroups Try.prog 3 base 3 .i64 b n D) (hb : b < w0.heap.size) (hB : Below w0.heap.size w0 wl) : wl.Shuns b (fun g => w0.heap.size <= g) :=
 (World.Shuns.reno (No:=fun _ => False) (fun _ _ _ _ _ _ _ h => h) h (fun g hg => Or.inr hg)).kept (bel_grown hB) hb (by simp)
theorem row_cap {w : World} {base e g n cap : Nat} {xs : List Value} {m : Nat} (h : w.ownsRow base e 1 (.slice (some ⟨g,0,none⟩) n cap) m xs) : n <= cap /\ cap <= maxLen:=by
 rcases h.2 with ⟨h0,_⟩ | ⟨g',cap',cur,hv,_,_,h1,h2,_⟩
 ·cases h0
 ·cases hv; exact ⟨h1,h2⟩
theorem MS.pop {w : World} {B n g cap : Nat} {M : Nat -> Bool} {zs : List Nat} {x : Nat} (h : MS w B n M (.slice (some ⟨g,0,none⟩) (zs.length + 1) cap) (zs ++ [x])) :
  w.cell? ⟨g,zs.length,none⟩ = some (.int .i64 (x : Int)) /\ MS (w.setCell ⟨B + 1 + 1,0,none⟩ (.slice (some ⟨g,0,none⟩) zs.length cap)) B n M (.slice (some ⟨g,0,none⟩) zs.length cap) zs:=by
 have hl:=natI_len zs
 have hr:=h.row
 rw [natI_snoc] at hr
 constructor
 ·have hc:=hr.1.cells (g:=g) rfl zs.length (.int .i64 (x : Int)) (by
   rw [List.map_append,List.getElem?_append_right (by simp [hl])]; simp [hl])
  rw [addr_add] at hc; exact hc
 ·have h1:=hr.1
  rw [List.map_append,List.length_append,List.length_singleton,hl] at h1
  have h2:=ownsRow_pop (n:=zs.length) (by simp [natI]) h1
  refine ⟨?_,?_,⟨ownsRow_setCell_below (by rw [hl]; exact h2) (by show B + 2 < B + 3; omega) _,fun z hz => hr.2 z (by simp [hz])⟩,?_,?_,?_⟩
  ·rw [World.cell?_setCell_far _ _ _ _ (by show B + 2 ≠ B + 1; omega)]; exact h.met
  ·exact cell_set (a:=⟨B + 2,0,none⟩) h.opn _
  ·rw [World.frozen?_setCell]; exact h.frz
  ·obtain ⟨D,hD,hh⟩:=h.set
   exact ⟨D,hD.setCell (by show B ≠ B + 2; omega) _,hh⟩
  ·have:=h.size
   simpa [World.setCell] using this
end Go.Proofs.Yteehgcbjmdideab.Sc
/- 'reach' of package fst,ahead. -/
namespace Go.Proofs.Yteehgcbjmdideab.Sc
open Go.RowKit Go.Maps Go.ChangeShapes
attribute [local go_sem ↓] Go.wp_at_zero Go.wp_at_succ
theorem groups_madeA (w : World) (cs : Array Value) (H : Nat) (hH : w.heap.size = H) : ((w.alloc (.cells cs 25)).alloc (.map #[] 0)).ownsGroups Try.prog 3 (H + 2) 3 .i64 (H + 1) 0 (.map [] : DataW Unit):=by
 subst hH
 have:=World.ownsGroups_made (H:=Unit) (w.alloc (.cells cs 25)) Try.prog 3 3 .i64
 simpa using this
theorem grown_allA {w w1 w2 w3 w4 : World} {B b base e : Nat} {o : Obj} {v : Value} {zs : List Int} (hB : Below B w w1) (hoi : w1.ownsInts base e .i64 v zs) (hg : (w1.alloc o).grownBy w2 v.ownBlock) (hg2 : w2.grownBy w3 (some b)) (hs : B <= w1.heap.size) (hb : B <= base) (hbb : B <= b) (h4 : w4 = w3) : Below B w w4 /\ w1.heap.size <= w4.heap.size:=by
 subst h4
 have hall:=(World.grownBy_alloc w1 o v.ownBlock).trans hg
 exact ⟨hB.groups hoi hall hg2 hs hb hbb,Nat.le_trans hall.size hg2.size⟩
set_option maxHeartbeats 4000000 in
theorem reach_A (f : FstD) (N fb : Nat) (fin : Value) (aa : Option Addr) (n ac : Nat) (w : World) (hc : CellsF w fb (N : Int) f.start fin (.slice aa n ac)) (ha : ASlice w (.slice aa n ac) f.arcs) (hal : f.arcs.length = n) (hn : n <= 3000) (hN1 : 1 <= N) (hN : N <= 200)
  (hok : ∀ a ∈ f.arcs,(0 <= a.src /\ a.src < N) /\ (0 <= a.dst /\ a.dst < N)) :
  Calls Try.prog 86 #[.agg #[.int .i64 (N : Int),.int .i64 f.start,fin,.slice aa n ac],.func (.func 87) #[] #[.pointer (some ⟨fb,0,none⟩)],.func (.func 88) #[] #[]] w fun e w' =>
   ∃ B k M,e = .returned (.map (some B)) /\ SetAt w' B k M /\ (∀ x,M x = true ↔ ReachP N (pairsA f) (firstA f) x) /\ k <= 200 /\ w.heap.size <= B /\ Below w.heap.size w w':=by
 have HN1 : Hid (1 <= N):=hN1
 have HAL : Hid (f.arcs.length = n):=hal
 have HOK : Hid (∀ a ∈ f.arcs,(0 <= a.src /\ a.src < N) /\ (0 <= a.dst /\ a.dst < N)):=hok
 clear hal hok hN1
 have hmm:=@run_makeMap Try.prog
 obtain ⟨i0,hi,hz0,hz1,hz2⟩:=info_parts infoInt
 go_enter Try.func86,Try.ntmps86
 go_wp2
 go_loopw [23] (fun i wr => ∃ k : Nat,k <= n /\ i = .int .i64 k /\ ∃ D : DataW Unit,wr.ownsGroups Try.prog 3 (w.heap.size + 2) 3 .i64 (w.heap.size + 1) k D /\ NextsAt D ((pairsA f).take k) /\ Below (w.heap.size + 1) (w.alloc (.cells #[.int .i64 (N : Int),.int .i64 f.start,fin,.slice aa n ac] 25)) wr /\ w.heap.size + 2 <= wr.heap.size) (fun i _ => n - (intOf i).toNat)
 case atStart => exact ⟨0,Nat.zero_le _,rfl,.map [],groups_madeA w _ _ rfl,nextsAt_made,(Below.refl _ _).alloc (by simp) _,by simp⟩
 case round =>
  obtain ⟨k,hk,rfl,D,hown,hnx,hB,hsz⟩:=hrel
  have hbw : Below w.heap.size w wr:=(bel_up (bel_self w) _).trans (hB.mono (by omega))
  by_cases hlt : k < n
  ·obtain ⟨b,off,rfl,hx⟩:=ha.some (by omega)
   have hx:=hx.below hbw
   obtain ⟨a,hak⟩ : ∃ a,a = f.arcs.getD k a0:=⟨_,rfl⟩
   have hkl : k < f.arcs.length:=by have:=HAL.out; omega
   have hmem : a ∈ f.arcs:=by rw [hak]; simp [List.getD,hkl]
   obtain ⟨⟨q1,q2⟩,⟨q3,q4⟩⟩:=HOK.out a hmem
   obtain ⟨s,hs⟩ : ∃ s : Nat,a.src = s:=⟨(a.src).toNat,by omega⟩
   obtain ⟨t,ht⟩ : ∃ t : Nat,a.dst = t:=⟨(a.dst).toNat,by omega⟩
   have hsN : s < N:=by omega
   have htN : t < N:=by omega
   have HT : Hid ((pairsA f).take (k + 1) = (pairsA f).take k ++ [(s,t)]):=by
    show (pairsA f).take (k + 1) = (pairsA f).take k ++ [(s,t)]
    rw [List.take_add_one]
    congr 1
    have : (pairsA f)[k]? = some (s,t):=by
     unfold pairsA
     rw [List.getElem?_map]
     have e1 : f.arcs[k]? = some a:=by rw [hak]; simp [List.getD,hkl]
     rw [e1]
     simp [hs,ht]
    rw [this]; rfl
   have c0:=hx.c0 k hlt
   have c1:=hx.c1 k hlt
   have c2:=hx.c2 k hlt
   have c3:=hx.c3 k hlt
   have c4:=hx.c4 k hlt
   rw [<- hak] at c0 c1 c2 c3 c4
   have hkey:=keyN s (by omega)
   have hlti : (k : Int) < n:=by omega
   have HS : Hid (a.src = s):=hs
   have HD : Hid (a.dst = t):=ht
   clear hs ht hak hmem hkl q1 q2 q3 q4 hx
   go_wp2_with (first | (go_at_call 88; refine (along_aheadN a s t _ HS.out HD.out).mono ?_; rintro e w1 ⟨rfl,hb1⟩; have hbx:=bel_on (bel_up (bel_self wr) _) hb1; have hown1:=groups_below hown hbx; have hB1:=hB.trans (hbx.mono (by omega)); have hs1:=Nat.le_trans hsz hbx.size; clear hb1 hbx hown hB c0 c1 c2 c3 c4) | (at_lookup; refine wpList_lookup_groups _ rfl _ _ 137 rfl 3 22 3 .i64 keyI Try.underlying137 (zeroS _) (w.heap.size + 2) (w.heap.size + 1) k D rfl hown1 (by unfold maxLen; omega) _ _ rfl hkey ?_; intro v zs hat hoi hzl hback; have hzs:=hnx.at hat hoi) | (at_builtin; refine wpList_append_own_at _ rfl _ _ 22 rfl (w.heap.size + 2) 3 i0 (.int .i64 0) 1 8 Try.underlying22 hi hz0 hz1 hz2 rfl (by decide) _ _ _ rfl (hoi.1.alloc _) ⟨w1.heap.size,0,none⟩ 1 1 [.int .i64 (t : Int)] rfl rfl (cell_one_new _ _ _) (ints_oneCell .i64 [(t : Int)]) (by unfold maxLen; omega) (by omega) (by simp; omega) ?_; intro v' w2 hown' hgrow hnil hloc; have hoi':=hoi.appended hown' (wfN t (by omega))) | (at_mapUpdate; refine wpList_mapUpdate_back _ rfl _ _ _ 137 rfl hback rfl rfl rfl ((World.grownBy_alloc _ _ _).trans hgrow) hoi' (by simp; omega) (hloc.imp id (fun h => ⟨_,h,by simp⟩)) ?_; intro w3 hown3 hgrow3))
   obtain ⟨hB3,hs3⟩:=grown_allA hB1 hoi hgrow hgrow3 (by omega) (by omega) (by omega) rfl
   go_roundw
   case rel =>
    refine ⟨k + 1,by omega,by go_num,_,hown3,?_,hB3,Nat.le_trans hs1 hs3⟩
    rw [HT.out]
    rw [hzs] at hoi' ⊢
    exact hnx.put (groups_isMap hown1) hoi'
   case measure => simp [intOf]; omega
  ·have HNX : Hid (NextsAt D (pairsA f)):=by
    have h:=hnx
    rw [List.take_of_length_le (by simp [pairsA,HAL.out]; omega)] at h
    exact h
   clear hnx
   have hF : CellsF wr w.heap.size (N : Int) f.start fin (.slice aa n ac):=CellsF.keepB (by simp [CellsF]) hB (by omega)
   have f0 : (((wr.alloc (.map #[] 0)).alloc (.cells #[.map (some wr.heap.size)] 104)).alloc (.cells #[.slice none 0 0] 22)).cell? ⟨w.heap.size,0,none⟩ = some (.int .i64 (N : Int)):=old_cell (old_cell (old_cell hF.1))
   have HPS : Hid (∀ p ∈ pairsA f,p.2 < N):=fun p hp => by
    obtain ⟨a,ha1,rfl⟩:=List.mem_map.1 hp
    have:=HOK.out a ha1
    show (a.dst).toNat < N
    omega
   go_wp2
   rename World => w0
   go_loopw [46] (fun i wx => ∃ k2 : Nat,k2 <= N /\ i = .int .i64 k2 /\ ∃ m M v zs,MS wx w0.heap.size m M v zs /\ Below w0.heap.size w0 wx /\ Srch N (pairsA f) (firstA f) k2 (fun _ => False) m M zs) (fun i _ => N - (intOf i).toNat)
   case atStart => exact ⟨0,Nat.zero_le _,rfl,0,_,_,[],MS.start w0,bel_up (bel_up (bel_up (bel_self w0) _) _) _,Srch.start _ _ _⟩
   case round =>
    obtain ⟨k2,hk2,rfl,m,M,v,zs,hms,hB2,hsr⟩:=hrel
    have hbw2 : Below w.heap.size w wr:=hbw.trans (hB2.mono hbw.size)
    have hc2:=hc.below hbw2
    have hml:=hsr.le
    have hzl:=hsr.zlen
    have HSR : Hid (Srch N (pairsA f) (firstA f) k2 (fun _ => False) m M zs):=hsr
    clear hsr f0 hF
    by_cases hlt2 : k2 < N
    ·have hi2 : (k2 : Int) < N:=by omega
     cases hS : firstA f k2
     ·go_wp2_with (go_at_call 87; refine (first_A f N fb _ _ k2 false _ hc2 hS).mono ?_; rintro e w1 ⟨rfl,rfl⟩)
      go_roundw
      case rel => exact ⟨k2 + 1,by omega,by go_num,m,M,v,zs,hms,hB2,HSR.out.miss hS⟩
      case measure => simp [intOf]; omega
     ·go_wp2_with (first | (go_at_call 87; refine (first_A f N fb _ _ k2 true _ hc2 hS).mono ?_; rintro e w1 ⟨rfl,rfl⟩) | (go_at_call 107; refine (meet_any w0.heap.size m M v zs k2 _ hms (by omega) (by omega) (by omega)).mono ?_; rintro e w1 ⟨rfl,hbm,v1,hms1⟩))
      go_roundw
      case rel => exact ⟨k2 + 1,by omega,by go_num,_,_,v1,_,hms1,hB2.trans hbm,HSR.out.hit hlt2 hS⟩
      case measure => simp [intOf]; omega
    ·have HSN : Hid (Srch N (pairsA f) (firstA f) N (fun _ => False) m M zs):=⟨HSR.out.num,HSR.out.zlen,HSR.out.lt,HSR.out.sound,HSR.out.opn,HSR.out.all,fun x _ hx hS => HSR.out.first x (by omega) hx hS⟩
     clear HSR
     have HO : Hid (Open3 N (pairsA f) (firstA f) w0 wr (2 * (N - m) + zs.length)):=⟨m,M,v,zs,hms,hB2,HSN.out,rfl⟩
     clear HSN hms hB2 hc2 hbw2 hml hzl
     go_wp2
     go_loopw [16] (fun _ wx => ∃ u,Open3 N (pairsA f) (firstA f) w0 wx u) (fun _ wx => Classical.epsilon (fun u => Open3 N (pairsA f) (firstA f) w0 wx u /\ ∀ q,Open3 N (pairsA f) (firstA f) w0 wx q -> u <= q))
     case atStart => exact ⟨_,HO.out⟩
     case round =>
      clear HO m M v zs
      have hE:=eps_min hrel
      obtain ⟨u,hu⟩ : ∃ u,u = Classical.epsilon (fun u => Open3 N (pairsA f) (firstA f) w0 wr u /\ ∀ q,Open3 N (pairsA f) (firstA f) w0 wr q -> u <= q):=⟨_,rfl⟩
      rw [<- hu] at hE
      have HU : Hid (u = Classical.epsilon (fun u => Open3 N (pairsA f) (firstA f) w0 wr u /\ ∀ q,Open3 N (pairsA f) (firstA f) w0 wr q -> u <= q)):=hu
      obtain ⟨⟨m,M,v,zs,hms,hB2,hsr,hul⟩,_⟩:=hE
      clear hu hrel
      have hml:=hsr.le
      have hzl:=hsr.zlen
      have HSR : Hid (Srch N (pairsA f) (firstA f) N (fun _ => False) m M zs):=hsr
      clear hsr
      rcases List.eq_nil_or_concat zs with rfl | ⟨zs1,x,hzx⟩
      ·obtain ⟨a,c,rfl⟩ : ∃ a c,v = .slice a 0 c:=by
        rcases Go.Joins.ownsRow_forms hms.row.1 with ⟨h1,_⟩ | ⟨g,c,h1⟩
        ·exact ⟨_,_,h1⟩
        ·exact ⟨_,_,h1⟩
       have ho : wr.cell? ⟨w0.heap.size + 1 + 1,0,none⟩ = some (.slice a 0 c):=hms.opn
       have hm:=hms.met
       go_wp2
       go_ret
       exact ⟨w0.heap.size,m,M,rfl,hms.set,HSR.out.done,by omega,hbw.size,hbw.trans (hB2.mono hbw.size)⟩
      ·rw [List.concat_eq_append] at hzx
       subst hzx
       obtain ⟨g,cap,rfl⟩ : ∃ g cap,v = .slice (some ⟨g,0,none⟩) (zs1.length + 1) cap:=by
        have h:=Go.Joins.ownsRow_form hms.row.1 (by simp [natI])
        simpa [natI] using h
       obtain ⟨hcx,hms1⟩:=hms.pop
       obtain ⟨hcap,hcap2⟩:=row_cap hms.row.1
       unfold maxLen at hcap2
       have ho : wr.cell? ⟨w0.heap.size + 1 + 1,0,none⟩ = some (.slice (some ⟨g,0,none⟩) (zs1.length + 1) cap):=hms.opn
       have hfz : wr.frozen? ⟨w0.heap.size + 1 + 1,0,none⟩ = false:=hms.frz
       obtain ⟨hsr1,hMx⟩:=HSR.out.pop
       have hxN:=hsr1.lt x hMx
       have hz1 : zs1.length + 1 <= 200:=by simp at hzl; omega
       have hkey:=keyN x (by omega)
       have hBl : Below w0.heap.size w0 (wr.setCell ⟨w0.heap.size + 1 + 1,0,none⟩ (.slice (some ⟨g,0,none⟩) zs1.length cap)):=hB2.setCell (by show w0.heap.size <= w0.heap.size + 1 + 1; omega) _
       have hownl:=groups_below hown hBl
       have hshl:=shuns_all hown (by omega) hBl
       have hLb : (nexts (pairsA f) x).length <= 3000:=by
        have h1 : (nexts (pairsA f) x).length <= (pairsA f).length:=by unfold nexts; rw [List.length_map]; exact List.length_filter_le _ _
        have h2 : (pairsA f).length = n:=by simp [pairsA,HAL.out]
        omega
       have HO4 : Hid (Open4 N (pairsA f) (firstA f) w0 (wr.setCell ⟨w0.heap.size + 1 + 1,0,none⟩ (.slice (some ⟨g,0,none⟩) zs1.length cap)) x 0 u):=⟨m,M,_,zs1,hms1,hBl,hsr1,fun t ht => by simp at ht,hMx,by rw [hul]; simp; omega⟩
       clear hms hms1 hsr1 hMx HSR hul hB2 hzl hml
       go_wp2_with (at_lookup; refine wpList_lookup_groups_shuns _ rfl _ _ 137 rfl 3 22 3 .i64 keyI Try.underlying137 (zeroS _) (w.heap.size + 2) (w.heap.size + 1) k D rfl hownl (by unfold maxLen; omega) _ _ rfl hkey ?_; intro v2 zs2 hat hoi _ _ hsh; have hzs:=HNX.out.at hat hoi; rw [hzs] at hoi; obtain ⟨a2,c2,hv2,hrow⟩:=next_row hoi hBl (hsh _ hshl); rw [hv2]; clear hsh hoi hat hzs hv2)
       go_loopw [74] (fun i wy => ∃ j : Nat,j <= (nexts (pairsA f) x).length /\ i = .int .i64 j /\ Open4 N (pairsA f) (firstA f) w0 wy x j u) (fun i _ => (nexts (pairsA f) x).length - (intOf i).toNat)
       case atStart => exact ⟨0,Nat.zero_le _,rfl,HO4.out⟩
       case round =>
        clear HO4 hownl hshl hBl ho hfz hcx
        obtain ⟨j,hj,rfl,m,M,v,zs,hms,hB2,hsr,hd,hMx,hle⟩:=hrel
        have hml:=hsr.le
        have hzl:=hsr.zlen
        have HSR : Hid (Srch N (pairsA f) (firstA f) N (fun y => y = x) m M zs):=hsr
        have HD : Hid (∀ t ∈ (nexts (pairsA f) x).take j,M t = true):=hd
        have HMX : Hid (M x = true):=hMx
        have HLE : Hid (2 * (N - m) + zs.length + 1 <= u):=hle
        clear hsr hd hMx hle
        by_cases hjl : j < (nexts (pairsA f) x).length
        ·obtain ⟨t,ht⟩ : ∃ t,(nexts (pairsA f) x)[j]? = some t:=⟨_,List.getElem?_eq_getElem hjl⟩
         obtain ⟨g2,rfl,hcl⟩:=hrow (by omega)
         have hct:=hcl wr hB2 j t ht
         have hmem : (x,t) ∈ pairsA f:=(mem_nexts _ x t).1 (List.mem_of_getElem? ht)
         have htN : t < N:=HPS.out (x,t) hmem
         have HR : Hid (ReachP N (pairsA f) (firstA f) t):=Reach.on (HSR.out.sound x HMX.out) hmem
         have HTK : Hid ((nexts (pairsA f) x).take (j + 1) = (nexts (pairsA f) x).take j ++ [t]):=by
          show (nexts (pairsA f) x).take (j + 1) = (nexts (pairsA f) x).take j ++ [t]
          rw [List.take_add_one,ht]; rfl
         have hji : (j : Int) < (nexts (pairsA f) x).length:=by omega
         clear ht hmem hcl
         go_wp2_with (go_at_call 107; refine (meet_any w0.heap.size m M v zs t _ hms (by omega) (by omega) (by omega)).mono ?_; rintro e w1 ⟨rfl,hbm,v1,hms1⟩)
         obtain ⟨hsr1,hle1⟩:=HSR.out.meet t htN HR.out
         go_roundw
         case rel =>
          refine ⟨j + 1,by omega,by go_num,_,_,v1,_,hms1,hB2.trans hbm,hsr1,fun y hy => ?_,meetM_mono HMX.out,by have:=HLE.out; omega⟩
          rw [HTK.out] at hy
          rcases List.mem_append.1 hy with h | h
          ·exact meetM_mono (HD.out y h)
          ·rw [List.mem_singleton.1 h]; exact meetM_self _ _
         case measure => simp [intOf]; omega
        ·have HO : Hid (Open3 N (pairsA f) (firstA f) w0 wr (2 * (N - m) + zs.length)):=⟨m,M,v,zs,hms,hB2,HSR.out.did (fun t ht => HD.out t (by rw [List.take_of_length_le (by omega)]; exact ht)),rfl⟩
         go_wp2
         go_roundw
         case rel => exact ⟨_,HO.out⟩
         case measure =>
          rw [<- HU.out]
          exact Nat.lt_of_le_of_lt ((eps_min ⟨_,HO.out⟩).2 _ HO.out) (by have:=HLE.out; omega)
end Go.Proofs.Yteehgcbjmdideab.Sc
/- 'reach' of package fst,back. -/
namespace Go.Proofs.Yteehgcbjmdideab.Sc
open Go.RowKit Go.Maps Go.ChangeShapes
attribute [local go_sem ↓] Go.wp_at_zero Go.wp_at_succ
theorem groups_madeB (w : World) (cs : Array Value) (H : Nat) (hH : w.heap.size = H) : ((w.alloc (.cells cs 25)).alloc (.map #[] 0)).ownsGroups Try.prog 3 (H + 2) 3 .i64 (H + 1) 0 (.map [] : DataW Unit):=by
 subst hH
 have:=World.ownsGroups_made (H:=Unit) (w.alloc (.cells cs 25)) Try.prog 3 3 .i64
 simpa using this
theorem grown_allB {w w1 w2 w3 w4 : World} {B b base e : Nat} {o : Obj} {v : Value} {zs : List Int} (hB : Below B w w1) (hoi : w1.ownsInts base e .i64 v zs) (hg : (w1.alloc o).grownBy w2 v.ownBlock) (hg2 : w2.grownBy w3 (some b)) (hs : B <= w1.heap.size) (hb : B <= base) (hbb : B <= b) (h4 : w4 = w3) : Below B w w4 /\ w1.heap.size <= w4.heap.size:=by
 subst h4
 have hall:=(World.grownBy_alloc w1 o v.ownBlock).trans hg
 exact ⟨hB.groups hoi hall hg2 hs hb hbb,Nat.le_trans hall.size hg2.size⟩
set_option maxHeartbeats 4000000 in
theorem reach_B (f : FstD) (N fb : Nat) (fin : Value) (aa : Option Addr) (n ac : Nat) (w : World) (hc : CellsF w fb (N : Int) f.start fin (.slice aa n ac)) (hf : ISlice w fin f.final) (hfl : f.final.length = N) (ha : ASlice w (.slice aa n ac) f.arcs) (hal : f.arcs.length = n) (hn : n <= 3000) (hN1 : 1 <= N) (hN : N <= 200)
  (hok : ∀ a ∈ f.arcs,(0 <= a.src /\ a.src < N) /\ (0 <= a.dst /\ a.dst < N)) :
  Calls Try.prog 86 #[.agg #[.int .i64 (N : Int),.int .i64 f.start,fin,.slice aa n ac],.func (.func 89) #[] #[.pointer (some ⟨fb,0,none⟩)],.func (.func 90) #[] #[]] w fun e w' =>
   ∃ B k M,e = .returned (.map (some B)) /\ SetAt w' B k M /\ (∀ x,M x = true ↔ ReachP N (pairsB f) (firstB f) x) /\ k <= 200 /\ w.heap.size <= B /\ Below w.heap.size w w':=by
 have HN1 : Hid (1 <= N):=hN1
 have HAL : Hid (f.arcs.length = n):=hal
 have HOK : Hid (∀ a ∈ f.arcs,(0 <= a.src /\ a.src < N) /\ (0 <= a.dst /\ a.dst < N)):=hok
 clear hal hok hN1
 have hmm:=@run_makeMap Try.prog
 obtain ⟨i0,hi,hz0,hz1,hz2⟩:=info_parts infoInt
 go_enter Try.func86,Try.ntmps86
 go_wp2
 go_loopw [23] (fun i wr => ∃ k : Nat,k <= n /\ i = .int .i64 k /\ ∃ D : DataW Unit,wr.ownsGroups Try.prog 3 (w.heap.size + 2) 3 .i64 (w.heap.size + 1) k D /\ NextsAt D ((pairsB f).take k) /\ Below (w.heap.size + 1) (w.alloc (.cells #[.int .i64 (N : Int),.int .i64 f.start,fin,.slice aa n ac] 25)) wr /\ w.heap.size + 2 <= wr.heap.size) (fun i _ => n - (intOf i).toNat)
 case atStart => exact ⟨0,Nat.zero_le _,rfl,.map [],groups_madeB w _ _ rfl,nextsAt_made,(Below.refl _ _).alloc (by simp) _,by simp⟩
 case round =>
  obtain ⟨k,hk,rfl,D,hown,hnx,hB,hsz⟩:=hrel
  have hbw : Below w.heap.size w wr:=(bel_up (bel_self w) _).trans (hB.mono (by omega))
  by_cases hlt : k < n
  ·obtain ⟨b,off,rfl,hx⟩:=ha.some (by omega)
   have hx:=hx.below hbw
   obtain ⟨a,hak⟩ : ∃ a,a = f.arcs.getD k a0:=⟨_,rfl⟩
   have hkl : k < f.arcs.length:=by have:=HAL.out; omega
   have hmem : a ∈ f.arcs:=by rw [hak]; simp [List.getD,hkl]
   obtain ⟨⟨q1,q2⟩,⟨q3,q4⟩⟩:=HOK.out a hmem
   obtain ⟨s,hs⟩ : ∃ s : Nat,a.dst = s:=⟨(a.dst).toNat,by omega⟩
   obtain ⟨t,ht⟩ : ∃ t : Nat,a.src = t:=⟨(a.src).toNat,by omega⟩
   have hsN : s < N:=by omega
   have htN : t < N:=by omega
   have HT : Hid ((pairsB f).take (k + 1) = (pairsB f).take k ++ [(s,t)]):=by
    show (pairsB f).take (k + 1) = (pairsB f).take k ++ [(s,t)]
    rw [List.take_add_one]
    congr 1
    have : (pairsB f)[k]? = some (s,t):=by
     unfold pairsB
     rw [List.getElem?_map]
     have e1 : f.arcs[k]? = some a:=by rw [hak]; simp [List.getD,hkl]
     rw [e1]
     simp [hs,ht]
    rw [this]; rfl
   have c0:=hx.c0 k hlt
   have c1:=hx.c1 k hlt
   have c2:=hx.c2 k hlt
   have c3:=hx.c3 k hlt
   have c4:=hx.c4 k hlt
   rw [<- hak] at c0 c1 c2 c3 c4
   have hkey:=keyN s (by omega)
   have hlti : (k : Int) < n:=by omega
   have HS : Hid (a.dst = s):=hs
   have HD : Hid (a.src = t):=ht
   clear hs ht hak hmem hkl q1 q2 q3 q4 hx
   go_wp2_with (first | (go_at_call 90; refine (along_backN a s t _ HS.out HD.out).mono ?_; rintro e w1 ⟨rfl,hb1⟩; have hbx:=bel_on (bel_up (bel_self wr) _) hb1; have hown1:=groups_below hown hbx; have hB1:=hB.trans (hbx.mono (by omega)); have hs1:=Nat.le_trans hsz hbx.size; clear hb1 hbx hown hB c0 c1 c2 c3 c4) | (at_lookup; refine wpList_lookup_groups _ rfl _ _ 137 rfl 3 22 3 .i64 keyI Try.underlying137 (zeroS _) (w.heap.size + 2) (w.heap.size + 1) k D rfl hown1 (by unfold maxLen; omega) _ _ rfl hkey ?_; intro v zs hat hoi hzl hback; have hzs:=hnx.at hat hoi) | (at_builtin; refine wpList_append_own_at _ rfl _ _ 22 rfl (w.heap.size + 2) 3 i0 (.int .i64 0) 1 8 Try.underlying22 hi hz0 hz1 hz2 rfl (by decide) _ _ _ rfl (hoi.1.alloc _) ⟨w1.heap.size,0,none⟩ 1 1 [.int .i64 (t : Int)] rfl rfl (cell_one_new _ _ _) (ints_oneCell .i64 [(t : Int)]) (by unfold maxLen; omega) (by omega) (by simp; omega) ?_; intro v' w2 hown' hgrow hnil hloc; have hoi':=hoi.appended hown' (wfN t (by omega))) | (at_mapUpdate; refine wpList_mapUpdate_back _ rfl _ _ _ 137 rfl hback rfl rfl rfl ((World.grownBy_alloc _ _ _).trans hgrow) hoi' (by simp; omega) (hloc.imp id (fun h => ⟨_,h,by simp⟩)) ?_; intro w3 hown3 hgrow3))
   obtain ⟨hB3,hs3⟩:=grown_allB hB1 hoi hgrow hgrow3 (by omega) (by omega) (by omega) rfl
   go_roundw
   case rel =>
    refine ⟨k + 1,by omega,by go_num,_,hown3,?_,hB3,Nat.le_trans hs1 hs3⟩
    rw [HT.out]
    rw [hzs] at hoi' ⊢
    exact hnx.put (groups_isMap hown1) hoi'
   case measure => simp [intOf]; omega
  ·have HNX : Hid (NextsAt D (pairsB f)):=by
    have h:=hnx
    rw [List.take_of_length_le (by simp [pairsB,HAL.out]; omega)] at h
    exact h
   clear hnx
   have hF : CellsF wr w.heap.size (N : Int) f.start fin (.slice aa n ac):=CellsF.keepB (by simp [CellsF]) hB (by omega)
   have f0 : (((wr.alloc (.map #[] 0)).alloc (.cells #[.map (some wr.heap.size)] 104)).alloc (.cells #[.slice none 0 0] 22)).cell? ⟨w.heap.size,0,none⟩ = some (.int .i64 (N : Int)):=old_cell (old_cell (old_cell hF.1))
   have HPS : Hid (∀ p ∈ pairsB f,p.2 < N):=fun p hp => by
    obtain ⟨a,ha1,rfl⟩:=List.mem_map.1 hp
    have:=HOK.out a ha1
    show (a.src).toNat < N
    omega
   go_wp2
   rename World => w0
   go_loopw [46] (fun i wx => ∃ k2 : Nat,k2 <= N /\ i = .int .i64 k2 /\ ∃ m M v zs,MS wx w0.heap.size m M v zs /\ Below w0.heap.size w0 wx /\ Srch N (pairsB f) (firstB f) k2 (fun _ => False) m M zs) (fun i _ => N - (intOf i).toNat)
   case atStart => exact ⟨0,Nat.zero_le _,rfl,0,_,_,[],MS.start w0,bel_up (bel_up (bel_up (bel_self w0) _) _) _,Srch.start _ _ _⟩
   case round =>
    obtain ⟨k2,hk2,rfl,m,M,v,zs,hms,hB2,hsr⟩:=hrel
    have hbw2 : Below w.heap.size w wr:=hbw.trans (hB2.mono hbw.size)
    have hc2:=hc.below hbw2
    have hml:=hsr.le
    have hzl:=hsr.zlen
    have HSR : Hid (Srch N (pairsB f) (firstB f) k2 (fun _ => False) m M zs):=hsr
    clear hsr f0 hF
    by_cases hlt2 : k2 < N
    ·have hi2 : (k2 : Int) < N:=by omega
     cases hS : firstB f k2
     ·go_wp2_with (go_at_call 89; refine (first_B f N fb _ _ k2 false _ hc2 (hf.below hbw2) hfl hlt2 hS).mono ?_; rintro e w1 ⟨rfl,rfl⟩)
      go_roundw
      case rel => exact ⟨k2 + 1,by omega,by go_num,m,M,v,zs,hms,hB2,HSR.out.miss hS⟩
      case measure => simp [intOf]; omega
     ·go_wp2_with (first | (go_at_call 89; refine (first_B f N fb _ _ k2 true _ hc2 (hf.below hbw2) hfl hlt2 hS).mono ?_; rintro e w1 ⟨rfl,rfl⟩) | (go_at_call 107; refine (meet_any w0.heap.size m M v zs k2 _ hms (by omega) (by omega) (by omega)).mono ?_; rintro e w1 ⟨rfl,hbm,v1,hms1⟩))
      go_roundw
      case rel => exact ⟨k2 + 1,by omega,by go_num,_,_,v1,_,hms1,hB2.trans hbm,HSR.out.hit hlt2 hS⟩
      case measure => simp [intOf]; omega
    ·have HSN : Hid (Srch N (pairsB f) (firstB f) N (fun _ => False) m M zs):=⟨HSR.out.num,HSR.out.zlen,HSR.out.lt,HSR.out.sound,HSR.out.opn,HSR.out.all,fun x _ hx hS => HSR.out.first x (by omega) hx hS⟩
     clear HSR
     have HO : Hid (Open3 N (pairsB f) (firstB f) w0 wr (2 * (N - m) + zs.length)):=⟨m,M,v,zs,hms,hB2,HSN.out,rfl⟩
     clear HSN hms hB2 hc2 hbw2 hml hzl
     go_wp2
     go_loopw [16] (fun _ wx => ∃ u,Open3 N (pairsB f) (firstB f) w0 wx u) (fun _ wx => Classical.epsilon (fun u => Open3 N (pairsB f) (firstB f) w0 wx u /\ ∀ q,Open3 N (pairsB f) (firstB f) w0 wx q -> u <= q))
     case atStart => exact ⟨_,HO.out⟩
     case round =>
      clear HO m M v zs
      have hE:=eps_min hrel
      obtain ⟨u,hu⟩ : ∃ u,u = Classical.epsilon (fun u => Open3 N (pairsB f) (firstB f) w0 wr u /\ ∀ q,Open3 N (pairsB f) (firstB f) w0 wr q -> u <= q):=⟨_,rfl⟩
      rw [<- hu] at hE
      have HU : Hid (u = Classical.epsilon (fun u => Open3 N (pairsB f) (firstB f) w0 wr u /\ ∀ q,Open3 N (pairsB f) (firstB f) w0 wr q -> u <= q)):=hu
      obtain ⟨⟨m,M,v,zs,hms,hB2,hsr,hul⟩,_⟩:=hE
      clear hu hrel
      have hml:=hsr.le
      have hzl:=hsr.zlen
      have HSR : Hid (Srch N (pairsB f) (firstB f) N (fun _ => False) m M zs):=hsr
      clear hsr
      rcases List.eq_nil_or_concat zs with rfl | ⟨zs1,x,hzx⟩
      ·obtain ⟨a,c,rfl⟩ : ∃ a c,v = .slice a 0 c:=by
        rcases Go.Joins.ownsRow_forms hms.row.1 with ⟨h1,_⟩ | ⟨g,c,h1⟩
        ·exact ⟨_,_,h1⟩
        ·exact ⟨_,_,h1⟩
       have ho : wr.cell? ⟨w0.heap.size + 1 + 1,0,none⟩ = some (.slice a 0 c):=hms.opn
       have hm:=hms.met
       go_wp2
       go_ret
       exact ⟨w0.heap.size,m,M,rfl,hms.set,HSR.out.done,by omega,hbw.size,hbw.trans (hB2.mono hbw.size)⟩
      ·rw [List.concat_eq_append] at hzx
       subst hzx
       obtain ⟨g,cap,rfl⟩ : ∃ g cap,v = .slice (some ⟨g,0,none⟩) (zs1.length + 1) cap:=by
        have h:=Go.Joins.ownsRow_form hms.row.1 (by simp [natI])
        simpa [natI] using h
       obtain ⟨hcx,hms1⟩:=hms.pop
       obtain ⟨hcap,hcap2⟩:=row_cap hms.row.1
       unfold maxLen at hcap2
       have ho : wr.cell? ⟨w0.heap.size + 1 + 1,0,none⟩ = some (.slice (some ⟨g,0,none⟩) (zs1.length + 1) cap):=hms.opn
       have hfz : wr.frozen? ⟨w0.heap.size + 1 + 1,0,none⟩ = false:=hms.frz
       obtain ⟨hsr1,hMx⟩:=HSR.out.pop
       have hxN:=hsr1.lt x hMx
       have hz1 : zs1.length + 1 <= 200:=by simp at hzl; omega
       have hkey:=keyN x (by omega)
       have hBl : Below w0.heap.size w0 (wr.setCell ⟨w0.heap.size + 1 + 1,0,none⟩ (.slice (some ⟨g,0,none⟩) zs1.length cap)):=hB2.setCell (by show w0.heap.size <= w0.heap.size + 1 + 1; omega) _
       have hownl:=groups_below hown hBl
       have hshl:=shuns_all hown (by omega) hBl
       have hLb : (nexts (pairsB f) x).length <= 3000:=by
        have h1 : (nexts (pairsB f) x).length <= (pairsB f).length:=by unfold nexts; rw [List.length_map]; exact List.length_filter_le _ _
        have h2 : (pairsB f).length = n:=by simp [pairsB,HAL.out]
        omega
       have HO4 : Hid (Open4 N (pairsB f) (firstB f) w0 (wr.setCell ⟨w0.heap.size + 1 + 1,0,none⟩ (.slice (some ⟨g,0,none⟩) zs1.length cap)) x 0 u):=⟨m,M,_,zs1,hms1,hBl,hsr1,fun t ht => by simp at ht,hMx,by rw [hul]; simp; omega⟩
       clear hms hms1 hsr1 hMx HSR hul hB2 hzl hml
       go_wp2_with (at_lookup; refine wpList_lookup_groups_shuns _ rfl _ _ 137 rfl 3 22 3 .i64 keyI Try.underlying137 (zeroS _) (w.heap.size + 2) (w.heap.size + 1) k D rfl hownl (by unfold maxLen; omega) _ _ rfl hkey ?_; intro v2 zs2 hat hoi _ _ hsh; have hzs:=HNX.out.at hat hoi; rw [hzs] at hoi; obtain ⟨a2,c2,hv2,hrow⟩:=next_row hoi hBl (hsh _ hshl); rw [hv2]; clear hsh hoi hat hzs hv2)
       go_loopw [74] (fun i wy => ∃ j : Nat,j <= (nexts (pairsB f) x).length /\ i = .int .i64 j /\ Open4 N (pairsB f) (firstB f) w0 wy x j u) (fun i _ => (nexts (pairsB f) x).length - (intOf i).toNat)
       case atStart => exact ⟨0,Nat.zero_le _,rfl,HO4.out⟩
       case round =>
        clear HO4 hownl hshl hBl ho hfz hcx
        obtain ⟨j,hj,rfl,m,M,v,zs,hms,hB2,hsr,hd,hMx,hle⟩:=hrel
        have hml:=hsr.le
        have hzl:=hsr.zlen
        have HSR : Hid (Srch N (pairsB f) (firstB f) N (fun y => y = x) m M zs):=hsr
        have HD : Hid (∀ t ∈ (nexts (pairsB f) x).take j,M t = true):=hd
        have HMX : Hid (M x = true):=hMx
        have HLE : Hid (2 * (N - m) + zs.length + 1 <= u):=hle
        clear hsr hd hMx hle
        by_cases hjl : j < (nexts (pairsB f) x).length
        ·obtain ⟨t,ht⟩ : ∃ t,(nexts (pairsB f) x)[j]? = some t:=⟨_,List.getElem?_eq_getElem hjl⟩
         obtain ⟨g2,rfl,hcl⟩:=hrow (by omega)
         have hct:=hcl wr hB2 j t ht
         have hmem : (x,t) ∈ pairsB f:=(mem_nexts _ x t).1 (List.mem_of_getElem? ht)
         have htN : t < N:=HPS.out (x,t) hmem
         have HR : Hid (ReachP N (pairsB f) (firstB f) t):=Reach.on (HSR.out.sound x HMX.out) hmem
         have HTK : Hid ((nexts (pairsB f) x).take (j + 1) = (nexts (pairsB f) x).take j ++ [t]):=by
          show (nexts (pairsB f) x).take (j + 1) = (nexts (pairsB f) x).take j ++ [t]
          rw [List.take_add_one,ht]; rfl
         have hji : (j : Int) < (nexts (pairsB f) x).length:=by omega
         clear ht hmem hcl
         go_wp2_with (go_at_call 107; refine (meet_any w0.heap.size m M v zs t _ hms (by omega) (by omega) (by omega)).mono ?_; rintro e w1 ⟨rfl,hbm,v1,hms1⟩)
         obtain ⟨hsr1,hle1⟩:=HSR.out.meet t htN HR.out
         go_roundw
         case rel =>
          refine ⟨j + 1,by omega,by go_num,_,_,v1,_,hms1,hB2.trans hbm,hsr1,fun y hy => ?_,meetM_mono HMX.out,by have:=HLE.out; omega⟩
          rw [HTK.out] at hy
          rcases List.mem_append.1 hy with h | h
          ·exact meetM_mono (HD.out y h)
          ·rw [List.mem_singleton.1 h]; exact meetM_self _ _
         case measure => simp [intOf]; omega
        ·have HO : Hid (Open3 N (pairsB f) (firstB f) w0 wr (2 * (N - m) + zs.length)):=⟨m,M,v,zs,hms,hB2,HSR.out.did (fun t ht => HD.out t (by rw [List.take_of_length_le (by omega)]; exact ht)),rfl⟩
         go_wp2
         go_roundw
         case rel => exact ⟨_,HO.out⟩
         case measure =>
          rw [<- HU.out]
          exact Nat.lt_of_le_of_lt ((eps_min ⟨_,HO.out⟩).2 _ HO.out) (by have:=HLE.out; omega)
end Go.Proofs.Yteehgcbjmdideab.Sc
